
/- ShapeAll: (*Hands).listKept. -/

import Derived.Test.YtndjlbedfccnjaaQF

namespace Go.Proofs.Ytndjlbedfccnjaa

open Go.RowKit

set_option linter.unusedVariables false

theorem La.grown {W W' : World} {B hb M kn kc x xc n : Nat} {mo : Option Addr} {zss : List (List Int)} (h : La W B hb M mo kn kc x xc n zss) (k : W.grownBy W' none) : La W' B hb M mo kn kc x xc n zss := by
  obtain ⟨_, _, ⟨cx, fx, sx⟩, _⟩ := h.hv.xr.form
  simp only at fx
  have ex := k.block x (Array.getElem?_eq_some_iff.1 fx).1 (by simp)
  have cxj : ∀ j, W'.cell? ⟨x, j, none⟩ = W.cell? ⟨x, j, none⟩ := fun j => World.cell?_of_block (a := ⟨x, j, none⟩) ex
  obtain ⟨a, b, e1, e2, a1, b1⟩ := h.ends
  refine ⟨h.hv.grown k, h.kn, fun j hj => ?_, a, b, (cxj _).trans e1, (cxj _).trans e2, (k.block a (Array.getElem?_eq_some_iff.1 a1).1 (by simp)).trans a1, (k.block b (Array.getElem?_eq_some_iff.1 b1).1 (by simp)).trans b1⟩
  obtain ⟨m, g, L, c, r1, r2, r3, r4, r5, r6, r7⟩ := h.rows j hj
  refine ⟨m, g, L, c, r1, r2, r3, (cxj j).trans r4, ?_, r6.kept k (by simp), r7⟩
  exact k.cell r5 (by simp)

/-- Between two rounds of looking. -/
structure Lk (w V : World) (B hb M : Nat) (mo : Option Addr) (kn kc x xc n j : Nat) : Prop where
  hv : Hv V B hb mo kn kc (some ⟨x, 0, none⟩) (n + 2) xc
  bx : V.heap[x]? = w.heap[x]?
  bm : ∀ m, mo = some m → V.heap[m.block]? = w.heap[m.block]?
  row : ∀ i, j ≤ i → i < n → ∀ m g c, mo = some ⟨m, 0, none⟩ → w.cell? ⟨m, i, none⟩ = some (.slice (some ⟨g, 0, none⟩) c c) → V.heap[g]? = w.heap[g]?
  keep : Keep w V (fun p => p < M ∧ Kd w B hb p)

theorem Lk.start {w : World} {B hb M kn kc x xc n : Nat} {mo : Option Addr} (h : Hv w B hb mo kn kc (some ⟨x, 0, none⟩) (n + 2) xc) : Lk w w B hb M mo kn kc x xc n 0 :=
  ⟨h, rfl, fun _ _ => rfl, fun _ _ _ _ _ _ _ _ => rfl, ⟨rfl, rfl, rfl, Nat.le_refl _, fun _ _ _ => rfl⟩⟩
theorem Lk.grown {w V V' : World} {B hb M kn kc x xc n j : Nat} {mo : Option Addr} (h : Lk w V B hb M mo kn kc x xc n j) (hw : Hv w B hb mo kn kc (some ⟨x, 0, none⟩) (n + 2) xc) (hn : n ≤ kn) (k : V.grownBy V' none) : Lk w V' B hb M mo kn kc x xc n j := by
  have hs := h.keep.size
  obtain ⟨_, _, ⟨cx, fx, sx⟩, _⟩ := hw.xr.form
  simp only at fx
  refine ⟨h.hv.grown k, (k.block x (Nat.lt_of_lt_of_le (Array.getElem?_eq_some_iff.1 fx).1 hs) (by simp)).trans h.bx, fun m e => ?_, fun i h1 h2 m g c e hc => ?_, h.keep.trans (Keep.of k) (fun p _ e => by cases e)⟩
  · subst e
    obtain ⟨_, _, ⟨cm, fm, sm⟩, _⟩ := hw.mr.form
    exact (k.block _ (Nat.lt_of_lt_of_le (Array.getElem?_eq_some_iff.1 fm).1 hs) (by simp)).trans (h.bm _ rfl)
  · have := (hw.row (.inr ⟨e, by omega⟩) hc).1.lt
    exact (k.block g (Nat.lt_of_lt_of_le this hs) (by simp)).trans (h.row i h1 h2 m g c e hc)
theorem Lk.next {w V V' : World} {B hb M kn kc x xc n j m g c : Nat} {mo : Option Addr} {f : Nat → Int} (h : Lk w V B hb M mo kn kc x xc n j) (hw : Hv w B hb mo kn kc (some ⟨x, 0, none⟩) (n + 2) xc) (hn : n ≤ kn) (hj : j < n) (e : mo = some ⟨m, 0, none⟩) (hc : w.cell? ⟨m, j, none⟩ = some (.slice (some ⟨g, 0, none⟩) c c)) (hM : g < M) (k : V.grownBy V' (some g)) (hp : PRow V' g c c f) : Lk w V' B hb M mo kn kc x xc n (j + 1) := by
  have hs := h.keep.size
  have S0 : Ps hb mo kn m j := .inr ⟨e, by omega⟩
  obtain ⟨r1, r2, r3, r4, r5, r6⟩ := hw.row S0 hc
  have hcV : V.cell? ⟨m, j, none⟩ = some (.slice (some ⟨g, 0, none⟩) c c) := (World.cell?_of_block (a := ⟨m, j, none⟩) (h.bm ⟨m, 0, none⟩ e)).trans hc
  obtain ⟨_, _, ⟨cx, fx, sx⟩, _⟩ := hw.xr.form
  simp only at fx
  have ex : V'.heap[x]? = V.heap[x]? := k.block x (Nat.lt_of_lt_of_le (Array.getElem?_eq_some_iff.1 fx).1 hs) (some_ne (Ne.symm (r6 _ rfl)))
  have em : ∀ m, mo = some m → V'.heap[m.block]? = V.heap[m.block]? := fun m0 e0 => by
    have hne := r5 m0 e0
    have hw' := hw.mr
    subst e0
    obtain ⟨_, _, ⟨cm, fm, sm⟩, _⟩ := hw'.form
    exact k.block _ (Nat.lt_of_lt_of_le (Array.getElem?_eq_some_iff.1 fm).1 hs) (some_ne (Ne.symm hne))
  have eh : V'.heap[hb]? = V.heap[hb]? := k.block hb h.hv.base.2 (some_ne (Ne.symm r4))
  refine ⟨h.hv.same eh em (fun y ey => by cases ey; exact ex) (h.hv.pl.over S0 hcV hp k), ex.trans h.bx, fun m0 e0 => (em m0 e0).trans (h.bm m0 e0), fun i h1 h2 m' g' c' e' hc' => ?_, h.keep.trans (Keep.of k) (fun p _ ep => by cases ep; exact ⟨hM, hw.kdr S0 hc⟩)⟩
  rw [e] at e'
  cases e'
  have hlt := (hw.row (.inr ⟨e, by omega⟩) hc').1.lt
  refine (k.block g' (Nat.lt_of_lt_of_le hlt hs) (some_ne ?_)).trans (h.row i (by omega) h2 m g' c' e hc')
  rintro rfl
  have := (hw.pl.apart m i m j g' c' c (.inr ⟨e, by omega⟩) S0 hc' hc).2
  omega
/-- A cell of the row of lists is let go. -/
theorem Hv.nils {w : World} {B hb kn kc x xc n j : Nat} {mo : Option Addr} {v : Value} (h : Hv w B hb mo kn kc (some ⟨x, 0, none⟩) n xc) : Hv (w.setCell ⟨x, j, none⟩ v) B hb mo kn kc (some ⟨x, 0, none⟩) n xc := by
  have hxb : x ≠ hb := h.xn' _ rfl
  have b4 : ∀ p, p ≠ x → (w.setCell ⟨x, j, none⟩ v).heap[p]? = w.heap[p]? := fun p hp => heap_setCell_other w ⟨x, j, none⟩ p _ (by simpa using hp)
  obtain ⟨_, _, ⟨cx, fx, sx⟩, _⟩ := h.xr.form
  simp only at fx
  have eb := b4 hb (Ne.symm hxb)
  refine ⟨h.pl.same (fun b i s => ?_) (fun b i g gn s e hp => ?_), (World.cell?_of_block (a := ⟨hb, 2, none⟩) eb).trans h.mc, (World.frozen?_of_block (a := ⟨hb, 2, none⟩) eb).trans h.mf, (World.cell?_of_block (a := ⟨hb, 3, none⟩) eb).trans h.oc, (World.frozen?_of_block (a := ⟨hb, 3, none⟩) eb).trans h.xf, h.mr.same (fun y e _ => b4 y (by have := h.mx e rfl; simpa using this)), ?_, h.mn, h.xn'⟩
  · have e1 : b ≠ x := by
      rcases s with ⟨rfl, _⟩ | ⟨e, _⟩
      · exact Ne.symm hxb
      · have := h.mx e rfl; simpa using this
    exact ⟨World.cell?_of_block (a := ⟨b, i, none⟩) (b4 b e1), World.frozen?_of_block (a := ⟨b, i, none⟩) (b4 b e1)⟩
  · obtain ⟨r1, r2, r3, r4, r5, r6⟩ := h.row s e
    obtain ⟨cur, x1, x2, x3⟩ := hp.blk
    exact ⟨⟨cur, (b4 g (r6 _ rfl)).trans x1, x2, x3⟩, hp.le⟩
  · rcases h.xr with ⟨e, _⟩ | ⟨y, cur, e, h1, h2, h3, h4, h5⟩
    · cases e
    · cases e
      exact .inr ⟨x, _, rfl, h1, heap_setCell_same w x j cur _ v h2, h3, h4, by simpa using h5⟩

theorem lit_rd {W : World} {a : Nat} {z : Int} (h : W.heap[a]? = some (.cells #[.int .i64 z] 3 (0, 0))) (hz : -9223372036854775808 ≤ z ∧ z ≤ 9223372036854775807) : Rd W (some ⟨a, 0, none⟩) 1 [z] :=
  ⟨rfl, by omega, fun k hk => by
    obtain rfl : k = 0 := by omega
    exact hz, fun _ => ⟨a, 0, rfl, (Array.getElem?_eq_some_iff.1 h).1, fun k hk => by
    obtain rfl : k = 0 := by omega
    exact (cell_of_row W a 0 _ 3 (0, 0) h).trans rfl⟩⟩

set_option maxHeartbeats 16000000 in
set_option maxRecDepth 20000 in
theorem listKept_any (hb B M : Nat) (mo : Option Addr) (kn kc x xc : Nat) (lo : Option Addr) (n lc : Nat) (zss : List (List Int)) (w : World) (h : La w B hb M mo kn kc x xc n zss) (hl : Rb w B lo n zss) (hM : M ≤ w.heap.size) (hx : x < M) (hn : n ≤ 4194304) (hB : B ≤ w.heap.size) :
    Calls Try.prog 28 #[.pointer (some ⟨hb, 0, none⟩), .slice lo n lc] w fun e w' => e = .returned (.bool true) ∧ Hv w' B hb mo kn kc (some ⟨x, 0, none⟩) (n + 2) xc ∧ Keep w w' (fun p => p < M ∧ Kd w B hb p) := by
  have oc := h.hv.oc
  have HL : Hid (La w B hb M mo kn kc x xc n zss) := h
  obtain ⟨a, b, e1, e2, a1, b1⟩ := h.ends
  have R1 := (lit_rd a1 (by decide)).alloc (.cells #[.int .i64 (-7701)] 3)
  have R2 := rdA w [-7701] (by decide)
  have hx2 : n + 2 ≤ xc := by
    rcases h.hv.xr with ⟨e, _⟩ | ⟨y, cur, e, _, _, e2, _⟩
    · cases e
    · exact e2
  have i1 : (0 : Int) ≤ (n : Int) := by omega
  have i2 : (n : Int) < (n : Int) + 2 := by omega
  have i3 : (n : Int) + 1 < (n : Int) + 2 := by omega
  have c1 := eqInts_any (some ⟨a, 0, none⟩) (some ⟨w.heap.size, 0, none⟩) 1 1 1 1 [-7701] [-7701] _ R1 R2
  rw [eqB_self] at c1
  go_enter Try.func28, Try.ntmps28
  go_upto_region 3 with (first
    | (go_at_call 15; (with_reducible refine c1.mono ?_); rintro e w2 ⟨rfl, q, hq⟩; have D2 : Below w.heap.size w w2 := (by rw [hq]; exact below_drewN ((Below.refl _ w).alloc (Nat.le_refl _) _) q); clear hq; have k2 := grownN D2; have oc2 := k2.cell oc (by simp); have e22 := k2.cell e2 (by simp); have b2 := (k2.block b (Array.getElem?_eq_some_iff.1 b1).1 (by simp)).trans b1; have R3 := (lit_rd b2 (by decide)).alloc (.cells #[.int .i64 (-7702)] 3); have R4 := rdA w2 [-7702] (by decide); have c2 := eqInts_any (some ⟨b, 0, none⟩) (some ⟨w2.heap.size, 0, none⟩) 1 1 1 1 [-7702] [-7702] _ R3 R4; rw [eqB_self] at c2)
    | (go_at_call 15; (with_reducible refine c2.mono ?_); rintro e w3 ⟨rfl, q, hq⟩; have D3 : Below w.heap.size w w3 := (by rw [hq]; exact D2.trans ((below_drewN ((Below.refl _ w2).alloc (Nat.le_refl _) _) q).mono D2.size)); clear hq))
  have HL3 := HL.out.grown (grownN D3)
  have hB3 : B ≤ w3.heap.size := Nat.le_trans hB D3.size
  have hl3 := hl.low (D3.mono hB)
  have hM3 : M ≤ w3.heap.size := Nat.le_trans hM D3.size
  have HD : Hid (Below w.heap.size w w3) := D3
  have HL3' : Hid (La w3 B hb M mo kn kc x xc n zss) := HL3
  have HR3 : Hid (Rb w3 B lo n zss) := hl3
  have L0 : Lk w3 w3 B hb M mo kn kc x xc n 0 := Lk.start HL3.hv
  clear HL3 hl3 D3 D2 c1 c2 R1 R2 R3 R4 k2 oc2 e22 b2 a1 b1 e1 e2 oc h hl
  go_wp2
  go_loopw [6, 7] (fun ok i V => ok = .bool true ∧ ∃ j : Nat, j ≤ n ∧ i = .int .i64 (j : Nat) ∧ Lk w3 V B hb M mo kn kc x xc n j) (fun _ i _ => n - (intOf i).toNat)
  case atStart => exact ⟨rfl, 0, Nat.zero_le _, rfl, L0⟩
  case round =>
    obtain ⟨rfl, j, hj, rfl, FF⟩ := hrel
    by_cases hjn : j < n
    · have FG := FF.grown HL3'.out.hv HL3'.out.kn (⟨rfl, rfl, rfl, Nat.le_refl _, fun _ _ _ => rfl⟩ : wr.grownBy wr.drew none)
      have HF : Hid (Lk w3 wr.drew B hb M mo kn kc x xc n j) := FG
      obtain ⟨m, g, L, c, r1, r2, r3, r4, r5, r6, r7⟩ := HL3'.out.rows j hjn
      have hbl : ∀ p, p < B → wr.drew.heap[p]? = w3.heap[p]? := fun p hp => FG.keep.block p (by omega) (fun e => by have := e.2.1; omega)
      obtain ⟨b, off, rfl, hbB, hcs⟩ := HR3.out.cells (by omega)
      obtain ⟨A, L', C, cA, rA, sA, bA, lA⟩ := hcs j hjn
      have hLL : L' = L := by have := rA.len; omega
      subst hLL
      have cA1 : wr.drew.cell? ⟨b, off + j, none⟩ = some (.slice A L' C) := (World.cell?_of_block (a := ⟨b, off + j, none⟩) (hbl b hbB)).trans cA
      have oc := FG.hv.oc
      have mk := FG.hv.mc
      have cx : wr.drew.cell? ⟨x, j, none⟩ = some (.slice (some ⟨g, 0, none⟩) L' c) := (World.cell?_of_block (a := ⟨x, j, none⟩) FG.bx).trans r4
      have hbw : Below B w3 wr.drew := FG.keep.below hB3 (fun p hp e => by have := e.2.1; omega)
      have r6W : PRow wr.drew g c c (marked (row zss j) L') := by
        obtain ⟨cur, x1, x2, x3⟩ := r6.blk
        exact ⟨⟨cur, (FG.row j (Nat.le_refl _) hjn m g c r1 r5).trans x1, x2, x3⟩, r6.le⟩
      have rA1 := rA.lowZ bA hbw
      have rG := rd_marked r6W r3 rA1
      have cE := eqInts_any (some ⟨g, 0, none⟩) A L' L' c C (row zss j) (row zss j) _ rG rA1
      rw [eqB_self] at cE
      have cM : wr.drew.cell? ⟨m, j, none⟩ = some (.slice (some ⟨g, 0, none⟩) c c) := (World.cell?_of_block (a := ⟨m, j, none⟩) (FG.bm ⟨m, 0, none⟩ r1)).trans r5
      have hkn := HL3'.out.kn
      obtain ⟨q1, q2, q3, q4, q5, q6⟩ := HL3'.out.hv.row (.inr ⟨r1, by omega⟩) r5
      have hgA : 0 < L' → ∀ b' off', A = some ⟨b', off', none⟩ → b' ≠ g := fun h0 b' off' e => by have := bA h0 b' off' e; omega
      have HG : Hid (PRow wr.drew g c c (marked (row zss j) L') ∧ g ≠ m ∧ L' ≤ c ∧ Rd wr.drew A L' (row zss j) ∧ (0 < L' → ∀ b' off', A = some ⟨b', off', none⟩ → b' ≠ g)) := ⟨r6W, q3, by omega, rA1, hgA⟩
      have HJ : Hid (mo = some ⟨m, 0, none⟩ ∧ w3.cell? ⟨m, j, none⟩ = some (.slice (some ⟨g, 0, none⟩) c c) ∧ g < M) := ⟨r1, r5, r2⟩
      have j1 : (0 : Int) ≤ (j : Int) := by omega
      have j2 : (j : Int) < (n : Int) + 2 := by omega
      have j3 : (j : Int) < (n : Int) := by omega
      have j4 : (j : Int) < (kn : Int) := by omega
      have hmk : kn ≤ kc := by
        rcases FG.hv.mr with ⟨_, e, _⟩ | ⟨m, cur, e, _, _, e2, _⟩
        · omega
        · exact e2
      have HKN : Hid (n ≤ kn) := hkn
      rw [r1] at mk
      clear FF FG L0 r1 r2 r3 r4 r5 r6 r7 hcs cA rA sA bA lA r6W rA1 rG hbw hbl q1 q2 q3 q4 q5 q6 hgA hkn
      go_upto_region 6 with fail
      go_region_held3 (fun V => V.cell? ⟨hb, 3, none⟩ = some (.slice (some ⟨x, 0, none⟩) (n + 2) xc) ∧ V.cell? ⟨x, j, none⟩ = some (.slice (some ⟨g, 0, none⟩) L' c) ∧ V.cell? ⟨b, off + j, none⟩ = some (.slice A L' C)) (first | assumption | exact ⟨oc, cx, cA1⟩)
        (first
          | (go_at_call 15; (with_reducible refine cE.mono ?_); rintro e w4 ⟨rfl, q, hq⟩; have D4 : wr.drew.grownBy w4 none := (by rw [hq]; exact grownN (below_drewN (Below.refl _ _) q)); clear hq; have S4 : w4.cell? ⟨hb, 3, none⟩ = some (.slice (some ⟨x, 0, none⟩) (n + 2) xc) ∧ w4.cell? ⟨x, j, none⟩ = some (.slice (some ⟨g, 0, none⟩) L' c) ∧ w4.cell? ⟨b, off + j, none⟩ = some (.slice A L' C) := ⟨D4.cell oc (by simp), D4.cell cx (by simp), D4.cell cA1 (by simp)⟩))
      have D5 : wr.drew.grownBy w4.drew none := ⟨D4.os, D4.tape, D4.output, D4.size, D4.block⟩
      have mk5 : w4.drew.cell? ⟨hb, 2, none⟩ = some (.slice (some ⟨m, 0, none⟩) kn kc) := D5.cell mk (by simp)
      have cA5 : w4.drew.cell? ⟨b, off + j, none⟩ = some (.slice A L' C) := D5.cell cA1 (by simp)
      have cK := kept_any m j g c A L' C (row zss j) w4.drew (D5.cell cM (by simp)) HG.out.2.1 (HG.out.1.kept D5 (by simp)) HG.out.2.2.1 (HG.out.2.2.2.1.kept0 D5 (fun _ _ _ _ => by simp)) HG.out.2.2.2.2
      have HF5 := HF.out.grown HL3'.out.hv HKN.out D5
      have HF5' : Hid (Lk w3 w4.drew B hb M mo kn kc x xc n j) := HF5
      clear HF5 D4 S4 oc cx cA1 mk cM cE
      go_upto_region 7 with fail
      go_region_held3 (fun V => V.cell? ⟨hb, 2, none⟩ = some (.slice (some ⟨m, 0, none⟩) kn kc) ∧ V.cell? ⟨b, off + j, none⟩ = some (.slice A L' C)) (first | assumption | exact ⟨mk5, cA5⟩)
        (first
          | (go_at_call 19; (with_reducible refine cK.mono ?_); rintro e w5 ⟨rfl, hp5, hg5⟩; have F5 := HF5'.out.next HL3'.out.hv HKN.out hjn HJ.out.1 HJ.out.2.1 HJ.out.2.2 hg5 hp5; have S5 : w5.cell? ⟨hb, 2, none⟩ = some (.slice (some ⟨m, 0, none⟩) kn kc) ∧ w5.cell? ⟨b, off + j, none⟩ = some (.slice A L' C) := ⟨by rw [F5.hv.mc, HJ.out.1], (World.cell?_of_block (a := ⟨b, off + j, none⟩) ((F5.keep.block b (by omega) (fun e => by have := e.2.1; omega)).trans (HF5'.out.keep.block b (by omega) (fun e => by have := e.2.1; omega)).symm)).trans cA5⟩))
      clear S5 hp5 hg5 cK mk5 cA5 D5
      go_wp2
      go_roundw
      case rel => exact ⟨rfl, j + 1, by omega, by go_num, F5⟩
      case measure => simp [intOf]; omega
    · obtain rfl : n = j := by omega
      have HF : Hid (Lk w3 wr B hb M mo kn kc x xc n n) := FF
      clear FF L0
      have HX : Hid (x < M ∧ Kd w3 B hb x) := ⟨hx, HL3'.out.hv.kdx rfl⟩
      go_wp2
      go_loopw [9] (fun i V => ∃ j : Nat, j ≤ n + 2 ∧ i = .int .i64 (j : Nat) ∧ Hv V B hb mo kn kc (some ⟨x, 0, none⟩) (n + 2) xc ∧ Keep w3 V (fun p => p < M ∧ Kd w3 B hb p)) (fun i _ => n + 2 - (intOf i).toNat)
      case atStart => exact ⟨0, Nat.zero_le _, rfl, HF.out.hv, HF.out.keep⟩
      case round =>
        obtain ⟨j, hj, rfl, hV, kV⟩ := hrel
        have HV : Hid (Hv wr B hb mo kn kc (some ⟨x, 0, none⟩) (n + 2) xc) := hV
        have HK : Hid (Keep w3 wr (fun p => p < M ∧ Kd w3 B hb p)) := kV
        have oc := hV.oc
        by_cases hjn : j < n + 2
        · have j1 : (0 : Int) ≤ (j : Int) := by omega
          have j2 : (j : Int) < (n : Int) + 2 := by omega
          obtain ⟨_, _, ⟨cx, fx, sx⟩, _⟩ := hV.xr.form
          simp only at fx
          have cv : ∃ v, wr.cell? ⟨x, j, none⟩ = some v := ⟨cx[j]'(by omega), by rw [cell_of_row wr x j cx _ (0, 0) fx]; simp⟩
          obtain ⟨v2, cv2⟩ := cv
          have zv2 : wr.frozen? ⟨x, j, none⟩ = false := frozen_of_row wr x j cx _ fx
          have hV2 := hV.nils (j := j) (v := .slice none 0 0)
          have kV2 : Keep w3 (wr.setCell ⟨x, j, none⟩ (.slice none 0 0)) (fun p => p < M ∧ Kd w3 B hb p) := kV.trans (Keep.of (grown_set wr x j (.slice none 0 0))) (fun p _ e => by cases e; exact HX.out)
          have HV2 := (show Hid _ from hV2)
          have HK2 := (show Hid _ from kV2)
          clear hV kV hV2 kV2 fx sx
          go_wp2
          go_roundw
          case rel => exact ⟨j + 1, by omega, by go_num, HV2.out, HK2.out⟩
          case measure => simp [intOf]; omega
        · obtain rfl : j = n + 2 := by omega
          have j3 : ((n + 2 : Nat) : Int) = (n : Int) + 2 := by omega
          clear hV kV
          go_wp2
          go_ret
          refine ⟨rfl, HV.out, Keep.trans (S := fun p => p < M ∧ Kd w B hb p) (widen (Keep.of (grownN HD.out)) (fun p e => by cases e)) HK.out (fun p hp e => ⟨e.1, e.2.1, e.2.2.imp id (fun ⟨cur, t, x1, x2⟩ => ⟨cur, t, (HD.out.block p hp).symm.trans x1, x2⟩)⟩)⟩
end Go.Proofs.Ytndjlbedfccnjaa
