
/- ShapeAll: the walk. -/

import Derived.Test.YtndjlbedfccnjaaQI

namespace Go.Proofs.Ytndjlbedfccnjaa

open Go.RowKit

set_option linter.unusedVariables false

/-- How much a call is handed: what comes behind a bound is not counted. -/
def szK (zss : List (List Int)) (s : Nat) : Nat → Nat
  | 0 => s
  | k + 1 => if 4194304 ≤ szK zss s k then szK zss s k else szK zss s k + 10 + (row zss k).length
theorem szK_stay {zss : List (List Int)} {s k : Nat} (h : 4194304 ≤ szK zss s k) : ∀ m, szK zss s (k + m) = szK zss s k
  | 0 => rfl
  | m + 1 => by
    show (if 4194304 ≤ szK zss s (k + m) then szK zss s (k + m) else _) = _
    rw [szK_stay h m, if_pos h]
theorem szK_small {zss : List (List Int)} {s : Nat} : ∀ k, szK zss s k < 4194304 → s ≤ szK zss s k ∧ k ≤ szK zss s k ∧ ∀ j, j < k → (row zss j).length ≤ szK zss s k
  | 0, _ => ⟨Nat.le_refl _, Nat.zero_le _, fun j hj => by omega⟩
  | k + 1, h => by
    have e : szK zss s (k + 1) = if 4194304 ≤ szK zss s k then szK zss s k else szK zss s k + 10 + (row zss k).length := rfl
    by_cases c : 4194304 ≤ szK zss s k
    · rw [if_pos c] at e; omega
    · rw [if_neg c] at e
      obtain ⟨h1, h2, h3⟩ := szK_small (zss := zss) (s := s) k (by omega)
      refine ⟨by omega, by omega, fun j hj => ?_⟩
      by_cases ej : j = k
      · subst ej; omega
      · have := h3 j (by omega); omega

set_option maxHeartbeats 2000000 in
theorem opsz_any (K N : Int) (so ro mo : Option Addr) (sn sc tn tc mn mc : Nat) (zs ys : List Int) (zss : List (List Int)) (w : World) (hs : Rd w so sn zs) (ht : Rd w ro tn ys) (hm : Rs w mo mn zss) :
    Calls Try.prog 6 #[.agg #[.int .i64 K, .slice so sn sc, .slice ro tn tc, .int .i64 N, .slice mo mn mc]] w fun e w' => e = .returned (.int .i64 ((szK zss (sn + tn) mn : Nat) : Int)) ∧ Below w.heap.size w w' ∧ szK zss (sn + tn) mn ≤ 100000000000000 := by
  have hsr := hs.room
  have htr := ht.room
  have hmr := hm.room
  have HL : Hid (zss.length = mn) := hm.len
  go_enter Try.func6, Try.ntmps6
  go_wp2
  have cm : (w.alloc (.cells #[.int .i64 K, .slice so sn sc, .slice ro tn tc, .int .i64 N, .slice mo mn mc] 37)).cell? ⟨w.heap.size, 4, none⟩ = some (.slice mo mn mc) := by
    have hb := World.alloc_heap_new w (.cells #[.int .i64 K, .slice so sn sc, .slice ro tn tc, .int .i64 N, .slice mo mn mc] 37)
    exact (cell_of_row _ _ 4 _ 37 (0, 0) hb).trans rfl
  have hm1 := hm.below ((Below.refl _ w).alloc (Nat.le_refl _) (.cells #[.int .i64 K, .slice so sn sc, .slice ro tn tc, .int .i64 N, .slice mo mn mc] 37)) (Nat.le_refl _)
  have hbw : Below w.heap.size w (w.alloc (.cells #[.int .i64 K, .slice so sn sc, .slice ro tn tc, .int .i64 N, .slice mo mn mc] 37)) := (Below.refl _ w).alloc (Nat.le_refl _) _
  go_loop [3, 4] (fun v i => ∃ (k : Nat) (x : Int), k ≤ mn ∧ i = .int .i64 (k : Nat) ∧ v = .int .i64 x ∧ Hid (x = (szK zss (sn + tn) k : Nat)) ∧ 0 ≤ x ∧ x ≤ 40000000000000) (fun _ i => mn - (intOf i).toNat)
  case atStart => exact ⟨0, _, Nat.zero_le _, rfl, rfl, by show _ = _; simp [szK], by omega, by omega⟩
  case round =>
    obtain ⟨k, x, hk, rfl, rfl, HX, hx0, hbd⟩ := hrel
    by_cases hlt : k < mn
    · by_cases hsm : x < 4194304
      · obtain ⟨b, off, rfl, hb, hcs⟩ := hm1.cells (by omega)
        obtain ⟨A, L, C, c1, r1, s1⟩ := hcs k hlt
        have r1m := r1.room
        have hll : (row zss k).length = L := r1.len
        have HS : Hid (szK zss (sn + tn) (k + 1) = szK zss (sn + tn) k + 10 + L) := by
          show _ = _
          have := HX.out
          show (if 4194304 ≤ szK zss (sn + tn) k then _ else _) = _
          rw [if_neg (by omega), hll]
        clear hcs r1 s1 hll
        go_wp2
        go_round
        case rel => exact ⟨k + 1, _, by omega, by go_num, rfl, by show _ = _; rw [HS.out, HX.out]; omega, by omega, by omega⟩
        case measure => simp [intOf]; omega
      · go_wp2
        go_ret
        have e1 : szK zss (sn + tn) mn = szK zss (sn + tn) k := by
          have := szK_stay (zss := zss) (s := sn + tn) (k := k) (by have := HX.out; omega) (mn - k)
          rwa [show k + (mn - k) = mn by omega] at this
        refine ⟨ret_int (by rw [e1]; exact HX.out), hbw, by have := HX.out; omega⟩
    · obtain rfl : mn = k := by omega
      go_wp2
      go_ret
      exact ⟨ret_int HX.out, hbw, by have := HX.out; omega⟩

/-- The work's box beside the hands. -/
theorem Hv.over {V : World} {B hb wb kn kc xn xc : Nat} {mo xo : Option Addr} {x : Int} (h : Hv V B hb mo kn kc xo xn xc) (hw : V.heap[wb]? = some (.cells #[.int .i64 x] 34 (0, 0))) (hne : wb ≠ hb) (y : Int) :
    Hv (V.setCell ⟨wb, 0, none⟩ (.int .i64 y)) B hb mo kn kc xo xn xc ∧ (V.setCell ⟨wb, 0, none⟩ (.int .i64 y)).heap[wb]? = some (.cells #[.int .i64 y] 34 (0, 0)) := by
  have b4 : ∀ p, p ≠ wb → (V.setCell ⟨wb, 0, none⟩ (.int .i64 y)).heap[p]? = V.heap[p]? := fun p hp => heap_setCell_other V ⟨wb, 0, none⟩ p _ (by simpa using hp)
  have nm : ∀ m, mo = some m → m.block ≠ wb := fun m e => by
    subst e
    obtain ⟨_, _, ⟨cm, fm, _⟩, _⟩ := h.mr.form
    rintro rfl
    rw [hw] at fm; cases fm
  have nx : ∀ m, xo = some m → m.block ≠ wb := fun m e => by
    subst e
    obtain ⟨_, _, ⟨cm, fm, _⟩, _⟩ := h.xr.form
    rintro rfl
    rw [hw] at fm; cases fm
  refine ⟨h.same (b4 hb (Ne.symm hne)) (fun m e => b4 _ (nm m e)) (fun m e => b4 _ (nx m e)) (h.pl.same (fun b o s => ?_) (fun b o g gn s e hp => ?_)), heap_setCell_same V wb 0 _ _ _ hw⟩
  · have e1 : b ≠ wb := by
      rcases s with ⟨rfl, _⟩ | ⟨e, _⟩
      · exact Ne.symm hne
      · exact nm _ e
    exact ⟨World.cell?_of_block (a := ⟨b, o, none⟩) (b4 b e1), World.frozen?_of_block (a := ⟨b, o, none⟩) (b4 b e1)⟩
  · obtain ⟨cur, x1, x2, x3⟩ := hp.blk
    have e1 : g ≠ wb := by
      rintro rfl
      rw [hw] at x1; cases x1
    exact ⟨⟨cur, (b4 g e1).trans x1, x2, x3⟩, hp.le⟩
theorem kn_work {V W : World} {B hb wb : Nat} {x : Int} (k : Kn B hb V W) (hw : V.heap[wb]? = some (.cells #[.int .i64 x] 34 (0, 0))) (hne : wb ≠ hb) : W.heap[wb]? = some (.cells #[.int .i64 x] 34 (0, 0)) := by
  refine (k.block wb (Array.getElem?_eq_some_iff.1 hw).1 ?_).trans hw
  rintro ⟨_, e | ⟨cur, t, e, ht⟩⟩
  · exact hne e
  · rw [hw] at e
    cases e
    rcases ht with e | e | e <;> exact absurd e (by decide)
theorem Hv.start {V : World} {B hb : Nat} (hB : B ≤ hb) (h : V.heap[hb]? = some (.cells #[.slice none 0 0, .slice none 0 0, .slice none 0 0, .slice none 0 0] 31 (0, 0))) : Hv V B hb none 0 0 none 0 0 := by
  have c : ∀ j, j < 4 → V.cell? ⟨hb, j, none⟩ = some (.slice none 0 0) := fun j hj => by
    rw [cell_of_row V hb j _ _ (0, 0) h]
    match j, hj with
    | 0, _ => rfl
    | 1, _ => rfl
    | 2, _ => rfl
    | 3, _ => rfl
  have f : ∀ j, V.frozen? ⟨hb, j, none⟩ = false := fun j => frozen_of_row V hb j _ _ h
  have np : ∀ b o, Ps hb none 0 b o → b = hb ∧ o < 2 := fun b o s => by
    rcases s with s | ⟨e, _⟩
    · exact s
    · cases e
  refine ⟨⟨fun b o s => ?_, fun b o b' o' g gn gn' s s' e e' => ?_, fun b o b' o' g gn s s' e => ?_⟩, c 2 (by omega), f 2, c 3 (by omega), f 3, .inl ⟨rfl, rfl, rfl⟩, .inl ⟨rfl, rfl, rfl⟩, fun m e => (by cases e), fun m e => (by cases e)⟩
  · obtain ⟨rfl, ho⟩ := np b o s
    exact ⟨none, 0, c o (by omega), f o, hB, .inl ⟨rfl, rfl⟩⟩
  · obtain ⟨rfl, ho⟩ := np b o s
    rw [c o (by omega)] at e; cases e
  · obtain ⟨rfl, ho⟩ := np b o s
    rw [c o (by omega)] at e; cases e

/-- An entry of the script. -/
structure OpQ where
  K : Int
  so : Option Addr
  sn : Nat
  sc : Nat
  ro : Option Addr
  rn : Nat
  rc : Nat
  N : Int
  lo : Option Addr
  n : Nat
  cap : Nat
/-- Its lists are read. -/
def OkQ (w : World) (q : OpQ) : Prop := (∃ S, Rd w q.so q.sn S) ∧ Sl q.so q.sn q.sc ∧ (∃ A, Rd w q.ro q.rn A) ∧ Sl q.ro q.rn q.rc ∧ (∃ Z, Rs w q.lo q.n Z) ∧ Sl q.lo q.n q.cap ∧ -9223372036854775808 ≤ q.N ∧ q.N ≤ 9223372036854775807
theorem rd_low {w : World} {ao : Option Addr} {n : Nat} {zs : List Int} (h : Rd w ao n zs) : 0 < n → ∀ b off, ao = some ⟨b, off, none⟩ → b < w.heap.size := fun h0 b' off' e => by
  obtain ⟨b2, off2, e2, hb2, _⟩ := h.cells h0
  rw [e2] at e
  injection e with e
  injection e with e3
  omega
theorem Rs.rb {w : World} {lo : Option Addr} {n : Nat} {zss : List (List Int)} (h : Rs w lo n zss) (hs : ∀ k, k < n → (row zss k).length ≤ 100000000) : Rb w w.heap.size lo n zss :=
  ⟨h.len, h.room, fun h0 => by
    obtain ⟨b, off, e, hb, hc⟩ := h.cells h0
    exact ⟨b, off, e, hb, fun k hk => by
      obtain ⟨A, L, C, h1, h2, h3⟩ := hc k hk
      exact ⟨A, L, C, h1, h2, h3, rd_low h2, by have := hs k hk; have := h2.len; omega⟩⟩⟩

set_option maxHeartbeats 8000000 in
set_option maxRecDepth 100000 in
theorem allQ_walk (b off len cap : Nat) (q : Nat → OpQ) (w : World) (hb : b < w.heap.size) (hlen : len ≤ 9223372036854775807)
    (hc : ∀ i, i < len → w.cell? ⟨b, off + i * 5, none⟩ = some (.int .i64 (q i).K) ∧ w.cell? ⟨b, off + i * 5 + 1, none⟩ = some (.slice (q i).so (q i).sn (q i).sc) ∧ w.cell? ⟨b, off + i * 5 + 2, none⟩ = some (.slice (q i).ro (q i).rn (q i).rc) ∧ w.cell? ⟨b, off + i * 5 + 3, none⟩ = some (.int .i64 (q i).N) ∧ w.cell? ⟨b, off + i * 5 + 4, none⟩ = some (.slice (q i).lo (q i).n (q i).cap)) (hr : ∀ i, i < len → OkQ w (q i)) :
    Calls Try.prog 3 #[.slice (some ⟨b, off, none⟩) len cap] w fun e w' => e = .returned (.bool true) ∧ Below w.heap.size w w' := by
  have hcB := fun V => begun_any V
  go_enter Try.func3, Try.ntmps3
  go_wp2_with (go_at_call 4; (with_reducible refine (hcB _).mono ?_); rintro e w1 ⟨rfl, b1⟩)
  have kh := box_below w1 (.cells #[.slice none 0 0, .slice none 0 0, .slice none 0 0, .slice none 0 0] 31)
  have zh := allocNew w1 (.cells #[.slice none 0 0, .slice none 0 0, .slice none 0 0, .slice none 0 0] 31)
  have kw := box_below (w1.alloc (.cells #[.slice none 0 0, .slice none 0 0, .slice none 0 0, .slice none 0 0] 31)) (.cells #[.int .i64 0] 34)
  have zw := allocNew (w1.alloc (.cells #[.slice none 0 0, .slice none 0 0, .slice none 0 0, .slice none 0 0] 31)) (.cells #[.int .i64 0] 34)
  rw [World.size_alloc] at zw
  have zh2 := (kw.block w1.heap.size (by simp)).trans zh
  have b3 := (b1.trans (kh.mono b1.size)).trans (kw.mono (by have := b1.size; simp; omega))
  have F0 := Hv.start b1.size zh2
  go_loopw [5] (fun i V => ∃ (k : Nat) (x : Int), k ≤ len ∧ i = .int .i64 (k : Nat) ∧ 0 ≤ x ∧ x ≤ 4194304 ∧ V.heap[w1.heap.size + 1]? = some (.cells #[.int .i64 x] 34 (0, 0)) ∧ (∃ mo' kn' kc' xo' xn' xc', Hv V w.heap.size w1.heap.size mo' kn' kc' xo' xn' xc') ∧ Below w.heap.size w V) (fun i _ => len - (intOf i).toNat)
  case atStart => exact ⟨0, 0, Nat.zero_le _, rfl, by omega, by omega, zw, ⟨_, _, _, _, _, _, F0⟩, b3⟩
  case round =>
    obtain ⟨k, x, hk, rfl, hx0, hx1, hwk, ⟨mo, kn, kc, xo, xn, xc, hF⟩, BV⟩ := hrel
    clear b3 F0 zh2 zw kw zh kh
    by_cases hlt : k < len
    · have hck := hc k hlt
      have Ok := hr k hlt
      clear hc hr
      generalize q k = x1 at *
      obtain ⟨K, so, sn, sc, ro, rn, rc, N, lo, n, cap1⟩ := x1
      obtain ⟨h0, h1, h2, h3, h4⟩ := hck
      obtain ⟨⟨S, hS⟩, sS, ⟨A, hA⟩, sA, ⟨Z, hZ⟩, sZ, N1, N2⟩ := Ok
      dsimp only at h0 h1 h2 h3 h4 hS sS hA sA hZ sZ N1 N2
      have HC : Hid (w.cell? ⟨b, off + k * 5, none⟩ = some (.int .i64 K) ∧ w.cell? ⟨b, off + k * 5 + 1, none⟩ = some (.slice so sn sc) ∧ w.cell? ⟨b, off + k * 5 + 2, none⟩ = some (.slice ro rn rc) ∧ w.cell? ⟨b, off + k * 5 + 3, none⟩ = some (.int .i64 N) ∧ w.cell? ⟨b, off + k * 5 + 4, none⟩ = some (.slice lo n cap1)) := ⟨h0, h1, h2, h3, h4⟩
      rw [← BV.cell (p := ⟨b, _, none⟩) hb] at h0 h1 h2 h3 h4
      have hsr := hS.room
      have har := hA.room
      have lbS := rd_low hS
      have lbA := rd_low hA
      have hwne : w1.heap.size + 1 ≠ w1.heap.size := by omega
      have hz := opsz_any K N so ro lo sn sc rn rc n cap1 S A Z wr (hS.below BV (Nat.le_refl _)) (hA.below BV (Nat.le_refl _)) (hZ.below BV (Nat.le_refl _))
      have hsm : szK Z (sn + rn) n < 4194304 → sn + rn ≤ szK Z (sn + rn) n ∧ n ≤ szK Z (sn + rn) n ∧ ∀ j, j < n → (row Z j).length ≤ szK Z (sn + rn) n := szK_small n
      have HSM := (show Hid _ from hsm)
      generalize szK Z (sn + rn) n = zz at *
      have hwl := (Array.getElem?_eq_some_iff.1 hwk).1
      have HW : Hid (wr.heap[w1.heap.size + 1]? = some (.cells #[.int .i64 x] 34 (0, 0))) := hwk
      have HF : Hid (Hv wr w.heap.size w1.heap.size mo kn kc xo xn xc) := hF
      have HS1 : Hid (Rd w so sn S ∧ Sl so sn sc ∧ Rd w ro rn A ∧ Sl ro rn rc ∧ Rs w lo n Z ∧ Sl lo n cap1) := ⟨hS, sS, hA, sA, hZ, sZ⟩
      clear hwk hF hsm hS sS hA sA hZ sZ
      by_cases hov : 4194304 < x + 100 + (zz : Int)
      · go_wp2_with (first
          | (go_at_call 6; (with_reducible refine hz.mono ?_); rintro e W1 ⟨rfl, kz, hzb⟩; have zk1 := (kz.block (w1.heap.size + 1) hwl).trans HW.out; have c1 : W1.cell? ⟨w1.heap.size + 1, 0, none⟩ = some (.int .i64 x) := (cell_of_row W1 _ 0 _ 34 (0, 0) zk1).trans rfl; have f1 : W1.frozen? ⟨w1.heap.size + 1, 0, none⟩ = false := frozen_of_row W1 _ 0 _ 34 zk1; have cO := over_any (w1.heap.size + 1) x (zz : Int) W1 c1 f1 hx0 hx1 (by omega) (by omega); rw [show decide (4194304 < x + 100 + (zz : Int)) = true from by simpa using hov] at cO)
          | (go_at_call 5; (with_reducible refine cO.mono ?_); rintro e W2 ⟨rfl, hW2⟩))
        go_ret
        exact ⟨rfl, (BV.trans (kz.mono BV.size)).setCell (p := ⟨w1.heap.size + 1, 0, none⟩) (by have := b1.size; show w.heap.size ≤ w1.heap.size + 1; omega) _⟩
      · go_wp2_with (first
          | (go_at_call 6; (with_reducible refine hz.mono ?_); rintro e W1 ⟨rfl, kz, hzb⟩; have zk1 := (kz.block (w1.heap.size + 1) hwl).trans HW.out; have c1 : W1.cell? ⟨w1.heap.size + 1, 0, none⟩ = some (.int .i64 x) := (cell_of_row W1 _ 0 _ 34 (0, 0) zk1).trans rfl; have f1 : W1.frozen? ⟨w1.heap.size + 1, 0, none⟩ = false := frozen_of_row W1 _ 0 _ 34 zk1; have cO := over_any (w1.heap.size + 1) x (zz : Int) W1 c1 f1 hx0 hx1 (by omega) (by omega); rw [show decide (4194304 < x + 100 + (zz : Int)) = false from by simpa using hov] at cO)
          | (go_at_call 5; (with_reducible refine cO.mono ?_); rintro e W2 ⟨rfl, hW2⟩; obtain ⟨F2, Z2⟩ := (HF.out.grown (grownN kz)).over zk1 hwne (x + 100 + (zz : Int)); rw [← hW2] at F2 Z2; have B2 : Below w.heap.size w W2 := (by rw [hW2]; exact (BV.trans (kz.mono BV.size)).setCell (p := ⟨w1.heap.size + 1, 0, none⟩) (by have := b1.size; show w.heap.size ≤ w1.heap.size + 1; omega) _); clear hW2; obtain ⟨j0, j1, j2, j3, j4⟩ := HC.out; rw [← B2.cell (p := ⟨b, _, none⟩) hb] at j0 j1 j2 j3 j4; obtain ⟨q1, q2, q3⟩ := HSM.out (by omega); obtain ⟨hS, sS, hA, sA, hZ, sZ⟩ := HS1.out; have hp := plays_any w1.heap.size w.heap.size mo xo kn kc xn xc K N so ro lo sn sc rn rc n cap1 S A Z W2 F2 ⟨hS.lowZ lbS B2, sS, lbS, by omega⟩ ⟨hA.lowZ lbA B2, sA, lbA, by omega⟩ ((hZ.rb (fun j hj => by have := q3 j hj; omega)).low B2) sZ (by omega) B2.size N1 N2; clear hS sS hA sA hZ sZ q3)
          | (go_at_call 7; (with_reducible refine hp.mono ?_); rintro e W3 ⟨rfl, K3, F3⟩))
        go_roundw
        case rel => exact ⟨k + 1, x + 100 + (zz : Int), by omega, by go_num, by omega, by omega, kn_work K3 Z2 hwne, F3, B2.trans (K3.below B2.size)⟩
        case measure => simp [intOf]; omega
    · go_wp2
      go_ret
      exact ⟨rfl, BV⟩
theorem allQ_empty (a : Option Addr) (cap : Nat) (w : World) :
    Calls Try.prog 3 #[.slice a 0 cap] w fun e w' => e = .returned (.bool true) ∧ Below w.heap.size w w' := by
  have hcB := fun V => begun_any V
  go_enter Try.func3, Try.ntmps3
  go_wp2_with (go_at_call 4; (with_reducible refine (hcB _).mono ?_); rintro e w1 ⟨rfl, b1⟩)
  refine wp_loop_rounds 1 ?_
  rw [rounds_succ]
  have kh := box_below w1 (.cells #[.slice none 0 0, .slice none 0 0, .slice none 0 0, .slice none 0 0] 31)
  have kw := box_below (w1.alloc (.cells #[.slice none 0 0, .slice none 0 0, .slice none 0 0, .slice none 0 0] 31)) (.cells #[.int .i64 0] 34)
  have b3 := (b1.trans (kh.mono b1.size)).trans (kw.mono (by have := b1.size; simp; omega))
  go_wp2
  go_ret
  exact ⟨rfl, b3⟩
end Go.Proofs.Ytndjlbedfccnjaa
