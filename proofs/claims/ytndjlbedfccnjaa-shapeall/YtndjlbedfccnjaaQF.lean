
/- ShapeAll: (*Hands).list. -/

import Derived.Test.YtndjlbedfccnjaaQE

namespace Go.Proofs.Ytndjlbedfccnjaa

open Go.RowKit

set_option linter.unusedVariables false

/-- Lists that are handed in: all lie below a block. -/
structure Rb (w : World) (B : Nat) (lo : Option Addr) (n : Nat) (zss : List (List Int)) : Prop where
  len : zss.length = n
  room : n * 24 ≤ 140737488355328
  cells : 0 < n → ∃ b off, lo = some ⟨b, off, none⟩ ∧ b < B ∧ ∀ k, k < n → ∃ A L C, w.cell? ⟨b, off + k, none⟩ = some (.slice A L C) ∧ Rd w A L (row zss k) ∧ Sl A L C ∧ (0 < L → ∀ b' off', A = some ⟨b', off', none⟩ → b' < B) ∧ L ≤ 100000000
theorem Rb.rs {w : World} {B : Nat} {lo : Option Addr} {n : Nat} {zss : List (List Int)} (h : Rb w B lo n zss) (hB : B ≤ w.heap.size) : Rs w lo n zss :=
  ⟨h.len, h.room, fun h0 => by
    obtain ⟨b, off, e, hb, hc⟩ := h.cells h0
    exact ⟨b, off, e, by omega, fun k hk => by
      obtain ⟨A, L, C, h1, h2, h3, _⟩ := hc k hk
      exact ⟨A, L, C, h1, h2, h3⟩⟩⟩
theorem Rb.low {w w' : World} {B : Nat} {lo : Option Addr} {n : Nat} {zss : List (List Int)} (h : Rb w B lo n zss) (hb : Below B w w') : Rb w' B lo n zss :=
  ⟨h.len, h.room, fun h0 => by
    obtain ⟨b, off, e, hb', hc⟩ := h.cells h0
    exact ⟨b, off, e, hb', fun k hk => by
      obtain ⟨A, L, C, h1, h2, h3, h4, h5⟩ := hc k hk
      exact ⟨A, L, C, (World.cell?_of_block (a := ⟨b, off + k, none⟩) (hb.block b hb')).trans h1, h2.lowZ h4 hb, h3, h4, h5⟩⟩⟩

/-- The lists in hand: each lies in its hand, all side by side in the row of lists, two marks behind them. -/
structure La (W : World) (B hb M : Nat) (mo : Option Addr) (kn kc x xc n : Nat) (zss : List (List Int)) : Prop where
  hv : Hv W B hb mo kn kc (some ⟨x, 0, none⟩) (n + 2) xc
  kn : n ≤ kn
  rows : ∀ k, k < n → ∃ m g L c, mo = some ⟨m, 0, none⟩ ∧ g < M ∧ L + 2 ≤ c ∧ W.cell? ⟨x, k, none⟩ = some (.slice (some ⟨g, 0, none⟩) L c) ∧ W.cell? ⟨m, k, none⟩ = some (.slice (some ⟨g, 0, none⟩) c c) ∧ PRow W g c c (marked (row zss k) L) ∧ (row zss k).length = L
  ends : ∃ a b, W.cell? ⟨x, n, none⟩ = some (.slice (some ⟨a, 0, none⟩) 1 1) ∧ W.cell? ⟨x, n + 1, none⟩ = some (.slice (some ⟨b, 0, none⟩) 1 1) ∧ W.heap[a]? = some (.cells #[.int .i64 (-7701)] 3 (0, 0)) ∧ W.heap[b]? = some (.cells #[.int .i64 (-7702)] 3 (0, 0))

theorem Rb.news {w : World} {B : Nat} {lo : Option Addr} {n lc : Nat} {zss : List (List Int)} (h : Rb w B lo n zss) (hs : Sl lo n lc) : ∃ news : List Value, news.length = n ∧ (lo = none → n = 0 ∧ lc = 0) ∧ (∀ ad, lo = some ad → ∀ j u, news[j]? = some u → w.cell? (ad.add j) = some u) ∧ ∀ u ∈ news, u.oneCell' = true := by
  by_cases h0 : n = 0
  · subst h0
    exact ⟨[], rfl, fun e => hs.nil e, fun ad e j u hu => by simp at hu, fun u hu => by cases hu⟩
  · obtain ⟨b, off, rfl, hb, hc⟩ := h.cells (by omega)
    refine ⟨(List.range n).map (fun k => (w.cell? ⟨b, off + k, none⟩).getD (.bool true)), by simp, fun e => (by cases e), fun ad e j u hu => ?_, fun u hu => ?_⟩
    · cases e
      have hj : j < n := by
        have := (List.getElem?_eq_some_iff.1 hu).1
        simpa using this
      obtain ⟨A, L, C, h1, _⟩ := hc j hj
      have e : (⟨b, off, none⟩ : Addr).add j = ⟨b, off + j, none⟩ := by cases j <;> simp [Addr.add]
      rw [e, h1, ← hu]
      simp [hj, h1]
    · simp only [List.mem_map, List.mem_range] at hu
      obtain ⟨k, hk, rfl⟩ := hu
      obtain ⟨A, L, C, h1, _⟩ := hc k hk
      rw [h1]; rfl

theorem cell_two_new (w : World) (x y : Value) (t : TypeId) : ∀ j u, [x, y][j]? = some u → (w.alloc (.cells #[x, y] t)).cell? ((⟨w.heap.size, 0, none⟩ : Addr).add j) = some u := by
  intro j u hj
  have h0 := allocNew w (.cells #[x, y] t)
  match j, hj with
  | 0, hj => cases hj; exact (cell_of_row _ _ 0 _ t (0, 0) h0).trans rfl
  | 1, hj => cases hj; exact (cell_of_row _ _ 1 _ t (0, 0) h0).trans rfl
  | _ + 2, hj => simp at hj

section
variable {w w' : World} {B hb kn kc xn xc : Nat} {mo xo : Option Addr}

theorem Hv.hbm {w2 w3 : World} (h : Hv w B hb mo kn kc xo xn xc) (g0 : w.grownBy w2 none) (gr : w2.grownBy w3 (Value.slice mo kn kc).ownBlock) : w3.heap[hb]? = w.heap[hb]? :=
  (gr.block hb (Nat.lt_of_lt_of_le h.base.2 g0.size) (fun e => by
    cases mo with
    | none => cases e
    | some m => exact h.mn m rfl (own_some e).symm)).trans (g0.block hb h.base.2 (by simp))
theorem Hv.hbx {w2 w3 : World} {m c : Nat} (h : Hv w B hb mo kn kc xo xn xc) (g0 : w.grownBy w2 none) (gr : w2.grownBy w3 (Value.slice xo m c).ownBlock) : w3.heap[hb]? = w.heap[hb]? :=
  (gr.block hb (Nat.lt_of_lt_of_le h.base.2 g0.size) (fun e => by
    cases xo with
    | none => cases e
    | some m => exact h.xn' m rfl (own_some e).symm)).trans (g0.block hb h.base.2 (by simp))
theorem Hv.filled {w2 : World} {m k g c n x : Nat} {go : Option Addr} {gn : Nat} {zs : List Int} (h : Hv w B hb mo kn kc (some ⟨x, 0, none⟩) xn xc) (hm : mo = some ⟨m, 0, none⟩) (hk : k < kn) (hc : w.cell? ⟨m, k, none⟩ = some (.slice go gn gn)) (H : Handed w w2 B m k go n zs g c) : w2.heap[hb]? = w.heap[hb]? ∧ w2.heap[x]? = w.heap[x]? := by
  have S0 : Ps hb mo kn m k := .inr ⟨hm, hk⟩
  have hrow : ∀ t, some t = (Value.slice go 0 0).ownBlock → go = some ⟨t, 0, none⟩ := fun t e => by
    obtain ⟨_, _, H0⟩ := h.pl.hd m k S0
    have e0 := H0.cell.symm.trans hc
    simp only [Option.some.injEq, Value.slice.injEq] at e0
    rcases H0.row with ⟨e1, _⟩ | ⟨g', e1, _⟩
    · rw [← e0.1, e1] at e; cases e
    · rw [← e0.1, e1] at e; rw [← e0.1, e1]; cases e; rfl
  obtain ⟨_, _, ⟨cx, fx, sx⟩, nx⟩ := h.xr.form
  refine ⟨H.keep.block hb h.base.2 (fun e => e.elim (Ne.symm (h.mn _ hm)) (fun e => ?_)), H.keep.block x (Array.getElem?_eq_some_iff.1 fx).1 (fun e => e.elim (Ne.symm (h.mx hm rfl)) (fun e => ?_))⟩
  · have e1 := hrow hb e; subst e1; exact (h.row S0 hc).2.2.2.1 rfl
  · have e1 := hrow x e; subst e1; exact (h.row S0 hc).2.2.2.2.2 _ rfl rfl
end

/-- Between two rounds of filling. -/
structure Lf (w W : World) (B hb : Nat) (mo : Option Addr) (kn kc x xc n a b k : Nat) (zss : List (List Int)) : Prop where
  hv : Hv W B hb mo kn kc (some ⟨x, 0, none⟩) (n + 2) xc
  rows : ∀ j, j < k → ∃ m g L c, mo = some ⟨m, 0, none⟩ ∧ L + 2 ≤ c ∧ W.cell? ⟨x, j, none⟩ = some (.slice (some ⟨g, 0, none⟩) L c) ∧ W.cell? ⟨m, j, none⟩ = some (.slice (some ⟨g, 0, none⟩) c c) ∧ PRow W g c c (marked (row zss j) L) ∧ (row zss j).length = L
  e1 : W.cell? ⟨x, n, none⟩ = some (.slice (some ⟨a, 0, none⟩) 1 1)
  e2 : W.cell? ⟨x, n + 1, none⟩ = some (.slice (some ⟨b, 0, none⟩) 1 1)
  a1 : W.heap[a]? = some (.cells #[.int .i64 (-7701)] 3 (0, 0))
  b1 : W.heap[b]? = some (.cells #[.int .i64 (-7702)] 3 (0, 0))
  na : ∀ m j t c, mo = some ⟨m, 0, none⟩ → j < kn → W.cell? ⟨m, j, none⟩ = some (.slice (some ⟨t, 0, none⟩) c c) → t ≠ a ∧ t ≠ b
  kn' : Kn B hb w W

theorem Lf.next {w W w2 : World} {B hb kn kc x xc n a b k m g c L : Nat} {mo go : Option Addr} {gn : Nat} {zss : List (List Int)} (h : Lf w W B hb mo kn kc x xc n a b k zss) (hkn : n ≤ kn) (hk : k < n) (hm : mo = some ⟨m, 0, none⟩) (hc : W.cell? ⟨m, k, none⟩ = some (.slice go gn gn)) (H : Handed W w2 B m k go L (row zss k) g c) (hL : (row zss k).length = L) :
    Lf w (w2.setCell ⟨x, k, none⟩ (.slice (some ⟨g, 0, none⟩) L c)) B hb mo kn kc x xc n a b (k + 1) zss := by
  obtain ⟨f1, f2, f3, f4, f5, f6, f7, f8, f9⟩ := h.hv.fill (v := .slice (some ⟨g, 0, none⟩) L c) hm (by omega) hc H (by omega)
  have S0 : Ps hb mo kn m k := .inr ⟨hm, by omega⟩
  obtain ⟨_, _, ⟨cx, fx, sx⟩, nx⟩ := h.hv.xr.form
  have hm2 := h.hv.mr
  subst hm
  obtain ⟨_, _, ⟨cm, fm, sm⟩, nm⟩ := hm2.form
  simp only at fx fm
  obtain ⟨go0, gn0, H0⟩ := h.hv.pl.hd m k S0
  have e0 := H0.cell.symm.trans hc
  simp only [Option.some.injEq, Value.slice.injEq] at e0
  have hrow : ∀ t, some t = (Value.slice go 0 0).ownBlock → go = some ⟨t, 0, none⟩ := fun t e => by
    rcases H0.row with ⟨e1, _⟩ | ⟨g', e1, _⟩
    · rw [← e0.1, e1] at e; cases e
    · rw [← e0.1, e1] at e; rw [← e0.1, e1]; cases e; rfl
  have nrow : ∀ p, p ≠ x → p ≠ m → p < W.heap.size → (∀ t c', W.cell? ⟨m, k, none⟩ = some (.slice (some ⟨t, 0, none⟩) c' c') → t ≠ p) → (w2.setCell ⟨x, k, none⟩ (.slice (some ⟨g, 0, none⟩) L c)).heap[p]? = W.heap[p]? := fun p h1 h2 h3 h4 => f8 p h3 h1 h2 (fun e => by
    have e1 := hrow p e
    subst e1
    exact h4 p gn hc rfl)
  have la := (Array.getElem?_eq_some_iff.1 h.a1).1
  have lb := (Array.getElem?_eq_some_iff.1 h.b1).1
  have ax : a ≠ x := by rintro rfl; rw [h.a1] at fx; cases fx
  have bx : b ≠ x := by rintro rfl; rw [h.b1] at fx; cases fx
  have am : a ≠ m := by rintro rfl; rw [h.a1] at fm; cases fm
  have bm : b ≠ m := by rintro rfl; rw [h.b1] at fm; cases fm
  refine ⟨f1, fun j hj => ?_, (f4 n (by omega)).trans h.e1, (f4 (n + 1) (by omega)).trans h.e2, (nrow a ax am la (fun t c' e => (h.na m k t c' rfl (by omega) e).1)).trans h.a1, (nrow b bx bm lb (fun t c' e => (h.na m k t c' rfl (by omega) e).2)).trans h.b1, fun m' j t c' e hj ht => ?_, h.kn'.trans f2⟩
  · by_cases e : j = k
    · subst e
      exact ⟨m, g, L, c, rfl, H.room, f3, f6, f5, hL⟩
    · obtain ⟨m', g', L', c', r1, r2, r3, r4, r5, r6⟩ := h.rows j (by omega)
      cases r1
      obtain ⟨q1, q2, q3, q4, q5, q6⟩ := h.hv.row (.inr ⟨rfl, by omega⟩) r4
      refine ⟨m, g', L', c', rfl, r2, (f4 j e).trans r3, (f7 j e).trans r4, ?_, r6⟩
      obtain ⟨cur, x1, x2, x3⟩ := r5.blk
      refine ⟨⟨cur, (nrow g' (q6 _ rfl) (q5 _ rfl) r5.lt (fun t ct et => ?_)).trans x1, x2, x3⟩, r5.le⟩
      rintro rfl
      exact e ((h.hv.pl.apart m k m j t ct c' S0 (.inr ⟨rfl, by omega⟩) et r4).2).symm
  · cases e
    by_cases ej : j = k
    · subst ej
      rw [f6] at ht
      simp only [Option.some.injEq, Value.slice.injEq, Addr.mk.injEq] at ht
      obtain ⟨⟨rfl, _⟩, _⟩ := ht
      rcases f9 with e | e
      · subst e
        exact h.na m j g gn rfl hj hc
      · exact ⟨by omega, by omega⟩
    · rw [f7 j ej] at ht
      exact h.na m j t c' rfl hj ht

theorem Lf.drew {w W : World} {B hb kn kc x xc n a b k : Nat} {mo : Option Addr} {zss : List (List Int)} (h : Lf w W B hb mo kn kc x xc n a b k zss) : Lf w W.drew B hb mo kn kc x xc n a b k zss := by
  have d : W.grownBy W.drew none := ⟨rfl, rfl, rfl, Nat.le_refl _, fun _ _ _ => rfl⟩
  exact ⟨h.hv.grown d, fun j hj => by
    obtain ⟨m, g, L, c, r1, r2, r3, r4, r5, r6⟩ := h.rows j hj
    exact ⟨m, g, L, c, r1, r2, r3, r4, r5.kept d (by simp), r6⟩, h.e1, h.e2, h.a1, h.b1, h.na, h.kn'.trans (Kn.grown d)⟩

theorem Lf.start {w W3 w6 : World} {B hb kn kc n c c' : Nat} {mo co co' : Option Addr} {ls : List Value} (zss : List (List Int)) (H3 : Hv W3 B hb mo kn kc co n c) (hls : W3.ownsRow B 25 1 (.slice co n c) n ls) (gr : (((W3.alloc (.cells #[.int .i64 (-7701)] 3)).alloc (.cells #[.int .i64 (-7702)] 3)).alloc (.cells #[.slice (some ⟨W3.heap.size, 0, none⟩) 1 1, .slice (some ⟨W3.heap.size + 1, 0, none⟩) 1 1] 25)).grownBy w6 (Value.slice co n c).ownBlock)
    (ow : w6.ownsRow B 25 1 (.slice co' (n + 2) c') (n + 2) (ls ++ [.slice (some ⟨W3.heap.size, 0, none⟩) 1 1, .slice (some ⟨W3.heap.size + 1, 0, none⟩) 1 1])) (wh : (Value.slice co' (n + 2) c').ownBlock = (Value.slice co n c).ownBlock ∨ (Value.slice co' (n + 2) c').ownBlock = some (((W3.alloc (.cells #[.int .i64 (-7701)] 3)).alloc (.cells #[.int .i64 (-7702)] 3)).alloc (.cells #[.slice (some ⟨W3.heap.size, 0, none⟩) 1 1, .slice (some ⟨W3.heap.size + 1, 0, none⟩) 1 1] 25)).heap.size) (hK : Kn B hb w W3) :
    ∃ x, co' = some ⟨x, 0, none⟩ ∧ Lf w (w6.setCell ⟨hb, 3, none⟩ (.slice co' (n + 2) c')) B hb mo kn kc x c' n W3.heap.size (W3.heap.size + 1) 0 zss := by
  have how := ow_of ow
  obtain ⟨x, rfl⟩ : ∃ x, co' = some ⟨x, 0, none⟩ := by
    rcases how with ⟨_, e, _⟩ | ⟨x, cur, e, _⟩
    · omega
    · exact ⟨x, e⟩
  have D : Below W3.heap.size W3 (((W3.alloc (.cells #[.int .i64 (-7701)] 3)).alloc (.cells #[.int .i64 (-7702)] 3)).alloc (.cells #[.slice (some ⟨W3.heap.size, 0, none⟩) 1 1, .slice (some ⟨W3.heap.size + 1, 0, none⟩) 1 1] 25)) := (((Below.refl _ W3).alloc (Nat.le_refl _) _).alloc (by simp) _).alloc (by simp; omega) _
  obtain ⟨f1, f2, f3, f4⟩ := H3.outs (grownN D) gr ow wh
  have hl : ls.length = n := by have := hls.1; omega
  have hA : (((W3.alloc (.cells #[.int .i64 (-7701)] 3)).alloc (.cells #[.int .i64 (-7702)] 3)).alloc (.cells #[.slice (some ⟨W3.heap.size, 0, none⟩) 1 1, .slice (some ⟨W3.heap.size + 1, 0, none⟩) 1 1] 25)).heap[W3.heap.size]? = some (.cells #[.int .i64 (-7701)] 3 (0, 0)) :=
    (heap_alloc_old _ _ (by simp; omega)).trans ((heap_alloc_old _ _ (by simp)).trans (allocNew W3 _))
  have hBb : (((W3.alloc (.cells #[.int .i64 (-7701)] 3)).alloc (.cells #[.int .i64 (-7702)] 3)).alloc (.cells #[.slice (some ⟨W3.heap.size, 0, none⟩) 1 1, .slice (some ⟨W3.heap.size + 1, 0, none⟩) 1 1] 25)).heap[W3.heap.size + 1]? = some (.cells #[.int .i64 (-7702)] 3 (0, 0)) :=
    (heap_alloc_old _ _ (by simp)).trans (by have := allocNew (W3.alloc (.cells #[.int .i64 (-7701)] 3)) (.cells #[.int .i64 (-7702)] 3); rwa [World.size_alloc] at this)
  have no : ∀ p, W3.heap.size ≤ p → some p ≠ (Value.slice co n c).ownBlock := fun p hp e => by
    cases co with
    | none => cases e
    | some m =>
      obtain ⟨_, _, ⟨cur, g1, _⟩, _⟩ := H3.xr.form
      have := (Array.getElem?_eq_some_iff.1 g1).1
      have := own_some e
      omega
  have hbl := H3.base.2
  have b4 : ∀ p, p ≠ hb → (w6.setCell ⟨hb, 3, none⟩ (.slice (some ⟨x, 0, none⟩) (n + 2) c')).heap[p]? = w6.heap[p]? := fun p hp => heap_setCell_other w6 ⟨hb, 3, none⟩ p _ (by simpa using hp)
  have cx : ∀ j, (w6.setCell ⟨hb, 3, none⟩ (.slice (some ⟨x, 0, none⟩) (n + 2) c')).cell? ⟨x, j, none⟩ = w6.cell? ⟨x, j, none⟩ := fun j => World.cell?_of_block (a := ⟨x, j, none⟩) (f3 ⟨x, 0, none⟩ rfl)
  refine ⟨x, rfl, f1, fun j hj => by omega, ?_, ?_, ?_, ?_, fun m j t ct e hj ht => ?_, hK.trans f2⟩
  · rw [cx n, ow.cellAt n (by omega), List.getElem?_append_right (by omega), hl]; simp
  · rw [cx (n + 1), ow.cellAt (n + 1) (by omega), List.getElem?_append_right (by omega), hl]; simp
  · exact (b4 _ (by omega)).trans ((gr.block _ (by simp; omega) (no _ (Nat.le_refl _))).trans hA)
  · exact (b4 _ (by omega)).trans ((gr.block _ (by simp) (no _ (by omega))).trans hBb)
  · rw [World.cell?_of_block (a := ⟨m, j, none⟩) (f4 ⟨m, 0, none⟩ e)] at ht
    have := (H3.row (.inr ⟨e, hj⟩) ht).1.lt
    omega

set_option maxHeartbeats 16000000 in
set_option maxRecDepth 20000 in
theorem list_any (hb B : Nat) (mo xo : Option Addr) (kn kc xn xc : Nat) (lo : Option Addr) (n lc : Nat) (zss : List (List Int)) (w : World) (h : Hv w B hb mo kn kc xo xn xc) (hl : Rb w B lo n zss) (hs : Sl lo n lc) (hn : n ≤ 4194304) (hB : B ≤ w.heap.size) :
    Calls Try.prog 26 #[.pointer (some ⟨hb, 0, none⟩), .slice lo n lc] w fun e w' => ∃ mo' kn' kc' x xc', e = .returned (.slice (some ⟨x, 0, none⟩) n xc') ∧ La w' B hb w'.heap.size mo' kn' kc' x xc' n zss ∧ Kn B hb w w' := by
  have mc := h.mc
  have hlen := hl.len
  go_enter Try.func26, Try.ntmps26
  go_wp2
  go_loopw [] (fun wr => ∃ mo' kn' kc', Hv wr B hb mo' kn' kc' xo xn xc ∧ Kn B hb w wr) (fun wr => match wr.cell? ⟨hb, 2, none⟩ with | some (.slice _ k _) => n - k | _ => 0)
  case atStart => exact ⟨mo, kn, kc, h, Kn.refl _ _ _⟩
  case round =>
    obtain ⟨mo', k, kc', hI, hK⟩ := hrel
    have mk := hI.mc
    by_cases hlt : k < n
    · obtain ⟨vs, hv⟩ := hI.mr.own
      have H0 : Hid (Hv wr B hb mo' k kc' xo xn xc) := hI
      have HV : Hid (wr.ownsRow B 27 1 (.slice mo' k kc') k vs) := hv
      have hBr : B ≤ wr.heap.size := Nat.le_trans hB hK.size
      have HK : Hid (Kn B hb w wr) := hK
      clear h hI hv hK mc hl hs hlen
      go_wp2_with (at_builtin; refine wpList_app Try.underlying28 info27 rfl rfl (.tmp 18) (.tmp 20) rfl B _ _ _ _ _ _ _ [.slice none 0 0] rfl rfl (HV.out.alloc _) (fun e => by cases e) rfl (fun ad e => by cases e; exact cell_one_new _ _ _) (fun u hu => by simp only [List.mem_singleton] at hu; subst hu; rfl) (by omega) (by simp; omega) ?_; intro co c w3 ow gr wh; have e3 := H0.out.hbm (World.grownBy_alloc wr _ none) gr; have c3 := (World.cell?_of_block (a := ⟨hb, 2, none⟩) e3).trans H0.out.mc; have z3 := (World.frozen?_of_block (a := ⟨hb, 2, none⟩) e3).trans H0.out.mf)
      obtain ⟨x1, x2⟩ := H0.out.more HV.out gr ow wh
      go_roundw
      case rel => exact ⟨co, k + 1, c, x1, HK.out.trans x2⟩
      case measure => rw [x1.mc, mk]; simp; omega
    · have H0 : Hid (Hv wr B hb mo' k kc' xo xn xc) := hI
      have hBr : B ≤ wr.heap.size := Nat.le_trans hB hK.size
      have HK : Hid (Kn B hb w wr) := hK
      have hkn : n ≤ k := by omega
      have HKN : Hid (n ≤ k) := hkn
      clear hkn
      have oc := hI.oc
      obtain ⟨news, n1, n2, n3, n4⟩ := (hl.low (hK.below hB)).news hs
      have HN1 : Hid (news.length = n) := n1
      have HL : Hid (Rb w B lo n zss) := hl
      have HS : Hid (Sl lo n lc) := hs
      obtain ⟨v0, hv0⟩ := hI.xr.head.own
      have hv1 : v0 = [] := List.eq_nil_of_length_eq_zero (by have := hv0.1; omega)
      subst hv1
      have HX : Hid (wr.ownsRow B 25 1 (.slice xo 0 xc) 0 []) := hv0
      have hxf : (xo = none ∧ xn = 0 ∧ xc = 0) ∨ (∃ x, xo = some ⟨x, 0, none⟩ ∧ xn ≤ xc) := by
        rcases hI.xr with ⟨e1, e2, e3⟩ | ⟨x, cur, e1, e2, e3, e4, e5, e6⟩
        · exact .inl ⟨e1, e2, e3⟩
        · exact .inr ⟨x, e1, e4⟩
      clear h hI hK mc hl hs hlen hv0
      rcases hxf with ⟨rfl, rfl, rfl⟩ | ⟨x0, rfl, hxc⟩
      all_goals
        go_upto_region 4 with (at_builtin; refine wpList_app Try.underlying29 info25 rfl rfl (.tmp 29) (.tmp 30) rfl B _ _ _ _ _ _ _ news rfl rfl HX.out n2 n1 n3 n4 (by omega) hBr ?_; intro co c w3 ow gr wh; rw [Nat.zero_add] at ow wh; rw [List.nil_append] at ow; have e3 := H0.out.hbx (World.grownBy.refl wr none) gr; have c3 := (World.cell?_of_block (a := ⟨hb, 3, none⟩) e3).trans H0.out.oc; have z3 := (World.frozen?_of_block (a := ⟨hb, 3, none⟩) e3).trans H0.out.xf)
        obtain ⟨y1, y2, y3, y4⟩ := H0.out.outs (World.grownBy.refl wr none) gr ow wh
        have HK3 := HK.out.trans y2
        clear n2 n3 n4 n1 ow gr wh y4 y3 y2 e3 c3 z3 HX H0 HK
        generalize w3.setCell ⟨hb, 3, none⟩ (.slice co n c) = W3 at *
        have H3 : Hid (Hv W3 B hb mo' k kc' co n c) := y1
        have o3 := y1.oc
        obtain ⟨ls, hls⟩ := y1.xr.own
        have LS : Hid (W3.ownsRow B 25 1 (.slice co n c) n ls) := hls
        have HK4 : Hid (Kn B hb w W3) := HK3
        have hB3 : B ≤ W3.heap.size := Nat.le_trans hB HK3.size
        clear y1 hls HK3 oc mk
        have HNW : ∀ j u, [Value.slice (some ⟨W3.heap.size, 0, none⟩) 1 1, Value.slice (some ⟨W3.heap.size + 1, 0, none⟩) 1 1][j]? = some u → (((W3.alloc (.cells #[.int .i64 (-7701)] 3)).alloc (.cells #[.int .i64 (-7702)] 3)).alloc (.cells #[.slice (some ⟨W3.heap.size, 0, none⟩) 1 1, .slice (some ⟨W3.heap.size + 1, 0, none⟩) 1 1] 25)).cell? ((⟨W3.heap.size + 1 + 1, 0, none⟩ : Addr).add j) = some u := (by
          have := cell_two_new ((W3.alloc (.cells #[.int .i64 (-7701)] 3)).alloc (.cells #[.int .i64 (-7702)] 3)) (.slice (some ⟨W3.heap.size, 0, none⟩) 1 1) (.slice (some ⟨W3.heap.size + 1, 0, none⟩) 1 1) 25
          rwa [World.size_alloc, World.size_alloc] at this)
        have HNW' := (show Hid _ from HNW)
        clear HNW
        go_upto_region 5 with (at_builtin; refine wpList_app Try.underlying29 info25 rfl rfl (.tmp 38) (.tmp 41) rfl B _ _ _ _ _ _ ls [.slice (some ⟨W3.heap.size, 0, none⟩) 1 1, .slice (some ⟨W3.heap.size + 1, 0, none⟩) 1 1] rfl rfl (((LS.out.alloc _).alloc _).alloc _) (fun e => by cases e) rfl (fun ad e => by cases e; exact HNW'.out) (fun u hu => by simp only [List.mem_cons, List.not_mem_nil, or_false] at hu; rcases hu with rfl | rfl <;> rfl) (by omega) (by simp; omega) ?_; intro co2 c2 w6 ow gr wh; have e6 := H3.out.hbx (grownN ((((Below.refl _ W3).alloc (Nat.le_refl _) _).alloc (by simp) _).alloc (by simp; omega) _)) gr; have c6 := (World.cell?_of_block (a := ⟨hb, 3, none⟩) e6).trans H3.out.oc; have z6 := (World.frozen?_of_block (a := ⟨hb, 3, none⟩) e6).trans H3.out.xf)
        obtain ⟨x, rfl, F0⟩ := Lf.start zss H3.out LS.out gr ow wh HK4.out
        clear ow gr wh e6 c6 z6 H3 LS HK4 o3 HNW'
        generalize w6.setCell ⟨hb, 3, none⟩ (.slice (some ⟨x, 0, none⟩) (n + 2) c2) = W7 at *
        generalize W3.heap.size + 1 = bb at *
        generalize W3.heap.size = aa at *
        clear hB3
        go_wp2
        go_loopw [5] (fun i V => ∃ j : Nat, j ≤ n ∧ i = .int .i64 (j : Nat) ∧ Lf w V B hb mo' k kc' x c2 n aa bb j zss) (fun i _ => n - (intOf i).toNat)
        case atStart => exact ⟨0, Nat.zero_le _, rfl, F0⟩
        case round =>
          obtain ⟨j, hj, rfl, FG⟩ := hrel
          have HG : Hid (Lf w wr B hb mo' k kc' x c2 n aa bb j zss) := FG
          have FF := FG.drew
          clear FG
          have HF : Hid (Lf w wr.drew B hb mo' k kc' x c2 n aa bb j zss) := FF
          have oc := FF.hv.oc
          have mk := FF.hv.mc
          by_cases hjn : j < n
          · obtain ⟨b, off, rfl, hbB, hcs⟩ := (HL.out.low (FF.kn'.below hB)).cells (by omega)
            obtain ⟨A, L, C, cA, rA, sA, bA, lA⟩ := hcs j hjn
            obtain ⟨m, hm⟩ : ∃ m, mo' = some ⟨m, 0, none⟩ := by
              have := HKN.out
              rcases FF.hv.mr with ⟨_, e, _⟩ | ⟨m, cur, e, _⟩
              · omega
              · exact ⟨m, e⟩
            have hjk : j < k := by have := HKN.out; omega
            obtain ⟨go, gn, Hd0⟩ := FF.hv.pl.hd m j (.inr ⟨hm, hjk⟩)
            have hmk : k ≤ kc' := by
              rcases FF.hv.mr with ⟨_, e, _⟩ | ⟨m, cur, e, _, _, e2, _⟩
              · omega
              · exact e2
            have hx2 : n + 2 ≤ c2 := by
              rcases FF.hv.xr with ⟨_, e, _⟩ | ⟨m, cur, e, _, _, e2, _⟩
              · omega
              · exact e2
            have hcI := Hd0.cell
            have hBw : B ≤ wr.drew.heap.size := Nat.le_trans hB FF.kn'.size
            have cI := ints_any m j B go gn A L C (row zss j) wr.drew Hd0 rA sA (fun h0 b' off' e => by have := bA h0 b' off' e; have := Hd0.base; simp only at this; omega) lA hBw
            have HIN : Hid (wr.drew.cell? ⟨m, j, none⟩ = some (.slice go gn gn)) := hcI
            have HLE : Hid ((row zss j).length = L) := rA.len
            have HHD : Hid (Hd wr.drew B ⟨m, j, none⟩ go gn) := Hd0
            have HM : Hid (mo' = some ⟨m, 0, none⟩) := hm
            obtain ⟨_, _, ⟨cx, fx, sx⟩, _⟩ := FF.hv.xr.form
            simp only at fx
            have HFX : Hid (wr.drew.heap[x]? = some (.cells cx 25 (0, 0)) ∧ cx.size = c2) := ⟨fx, sx⟩
            have HBW : Hid (B ≤ wr.drew.heap.size) := hBw
            rw [hm] at mk
            have hbx : b ≠ x := (by have := HFX.out; have := FF.hv.xr; rcases this with ⟨e, _⟩ | ⟨y, cur, e, hy, _⟩; (· cases e); cases e; omega)
            have hhx : hb ≠ x := Ne.symm (FF.hv.xn' _ rfl)
            have HNE : Hid (b ≠ x ∧ hb ≠ x) := ⟨hbx, hhx⟩
            have i1 : (0 : Int) ≤ (j : Int) := by omega
            have i2 : (j : Int) < (n : Int) + 2 := by omega
            have i3 : (j : Int) < ((n + 2 : Nat) : Int) := by omega
            have i4 : (j : Int) < (k : Int) := by omega
            clear hbx hhx FF Hd0 hcs hm rA sA bA hcI fx sx hBw F0
            go_upto_region 8 with fail
            go_region_held3 (fun V => V.cell? ⟨hb, 3, none⟩ = some (.slice (some ⟨x, 0, none⟩) (n + 2) c2) ∧ V.cell? ⟨hb, 2, none⟩ = some (.slice (some ⟨m, 0, none⟩) k kc') ∧ V.cell? ⟨b, off + j, none⟩ = some (.slice A L C)) (first | assumption | exact S3 _ | exact ⟨oc, mk, cA⟩)
              (first
                | (go_at_call 18; (with_reducible refine cI.mono ?_); rintro e w2 ⟨g, c, rfl, H2⟩; obtain ⟨eh, ex⟩ := HF.out.hv.filled HM.out hjk HIN.out H2; have S2 : w2.cell? ⟨hb, 3, none⟩ = some (.slice (some ⟨x, 0, none⟩) (n + 2) c2) ∧ w2.cell? ⟨hb, 2, none⟩ = some (.slice (some ⟨m, 0, none⟩) k kc') ∧ w2.cell? ⟨b, off + j, none⟩ = some (.slice A L C) := ⟨(World.cell?_of_block (a := ⟨hb, 3, none⟩) eh).trans oc, (World.cell?_of_block (a := ⟨hb, 2, none⟩) eh).trans mk, (World.cell?_of_block (a := ⟨b, off + j, none⟩) ((H2.keep.below HBW.out (fun q hq e => by have := (HHD.out.out q e).1; omega)).block b hbB)).trans cA⟩; have S3 : ∀ v, (w2.setCell ⟨x, j, none⟩ v).cell? ⟨hb, 3, none⟩ = some (.slice (some ⟨x, 0, none⟩) (n + 2) c2) ∧ (w2.setCell ⟨x, j, none⟩ v).cell? ⟨hb, 2, none⟩ = some (.slice (some ⟨m, 0, none⟩) k kc') ∧ (w2.setCell ⟨x, j, none⟩ v).cell? ⟨b, off + j, none⟩ = some (.slice A L C) := fun v => ⟨(World.cell?_setCell_other w2 ⟨x, j, none⟩ ⟨hb, 3, none⟩ v (fun e => HNE.out.2 (by cases e; rfl))).trans S2.1, (World.cell?_setCell_other w2 ⟨x, j, none⟩ ⟨hb, 2, none⟩ v (fun e => HNE.out.2 (by cases e; rfl))).trans S2.2.1, (World.cell?_setCell_other w2 ⟨x, j, none⟩ ⟨b, off + j, none⟩ v (fun e => HNE.out.1 (by first | exact congrArg Addr.block e | exact (congrArg Addr.block e).symm))).trans S2.2.2⟩; have cx2 : ∃ v, w2.cell? ⟨x, j, none⟩ = some v := ⟨cx[j]'(by have := HFX.out.2; omega), by rw [World.cell?_of_block (a := ⟨x, j, none⟩) ex, cell_of_row wr.drew x j cx _ (0, 0) HFX.out.1]; simp⟩; obtain ⟨v2, cv2⟩ := cx2; have zx2 : w2.frozen? ⟨x, j, none⟩ = false := (World.frozen?_of_block (a := ⟨x, j, none⟩) ex).trans (frozen_of_row wr.drew x j cx _ HFX.out.1)))
            have F2 := HF.out.next (by have := HKN.out; omega) hjn HM.out HIN.out H2 HLE.out
            clear H2 S3 cv2 zx2 S2 eh ex oc mk cA cI
            generalize w2.setCell ⟨x, j, none⟩ (.slice (some ⟨g, 0, none⟩) L c) = W9 at *
            go_wp2
            go_roundw
            case rel => exact ⟨j + 1, by omega, by go_num, F2⟩
            case measure => simp [intOf]; omega
          · obtain rfl : n = j := by omega
            have FG := HG.out
            have hx2 : n + 2 ≤ c2 := by
              rcases FG.hv.xr with ⟨_, e, _⟩ | ⟨m, cur, e, _, _, e2, _⟩
              · omega
              · exact e2
            have i1 : (n : Int) ≤ (c2 : Int) := by omega
            have og := FG.hv.oc
            clear FF FG oc mk
            go_wp2
            go_ret
            refine ⟨mo', k, kc', x, c2, rfl, ⟨HG.out.hv, HKN.out, fun j hj => ?_, ⟨aa, bb, HG.out.e1, HG.out.e2, HG.out.a1, HG.out.b1⟩⟩, HG.out.kn'⟩
            obtain ⟨m, g, L, c, r1, r2, r3, r4, r5, r6⟩ := HG.out.rows j hj
            exact ⟨m, g, L, c, r1, r5.lt, r2, r3, r4, r5, r6⟩
end Go.Proofs.Ytndjlbedfccnjaa
