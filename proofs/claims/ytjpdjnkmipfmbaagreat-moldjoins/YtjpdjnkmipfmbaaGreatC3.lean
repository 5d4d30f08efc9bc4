
/- Contract: slices.Insert of one number at the head of a list of one's own; all its ways. -/

import Derived.Test.YtjpdjnkmipfmbaaGreatC2

namespace Go.Proofs.YtjpdjnkmipfmbaaGreat

open Go.RowKit

set_option linter.unusedVariables false

set_option maxHeartbeats 4000000 in
set_option maxRecDepth 20000 in
theorem insert0_grow (g k c : Nat) (zs : List Int) (n : Int) (vb B : Nat) (w : World) (f : Ft 3 w B (some ⟨g, 0, none⟩) k c zs) (hv : w.heap[vb]? = some (.cells #[.int .i64 n] 3 (0, 0))) (hk0 : 0 < k) (hk : k ≤ 4096) (hc : c < k + 1) (hB : B ≤ w.heap.size) (h1 : -9223372036854775808 ≤ n) (h2 : n ≤ 9223372036854775807) :
    Calls Tryz.prog 98 #[.slice (some ⟨g, 0, none⟩) k c, .int .i64 0, .slice (some ⟨vb, 0, none⟩) 1 1] w fun e w' => ∃ co c', e = .returned (.slice co (k + 1) c') ∧ Ft 3 w' B co (k + 1) c' (n :: zs) ∧ Below B w w' := by
  have hm := f.sl.max
  have hnc := f.sl.le
  have rd := f.rd
  obtain ⟨cap, cur, w1, hz, hg1, hcl, hcap, hcm, hb1⟩ := run_zeros w 23 g c (k + 1) (by omega) (by omega) hc
  have hl := f.rd.len
  have hvv : w.cell? ⟨vb, 0, none⟩ = some (.int .i64 n) := (cell_of_row w vb 0 _ _ (0, 0) hv).trans rfl
  have hvl := (Array.getElem?_eq_some_iff.1 hv).1
  have v3 : Hid (∀ j v, [Value.int .i64 n][j]? = some v → w1.cell? ((⟨vb, 0, none⟩ : Addr).add j) = some v) := fun j v hj => by
    obtain rfl : j = 0 := by have := (List.getElem?_eq_some_iff.1 hj).1; simpa using this
    cases hj; exact (hb1.cell (p := ⟨vb, 0, none⟩) hvl).trans hvv
  have m1 : Hid ([Value.int .i64 n].length = Nat.min 1 (k + 1)) := by show 1 = Nat.min 1 (k + 1); exact (Nat.min_eq_left (by omega)).symm
  obtain ⟨w2, hrun, hg2, hb2⟩ := run_spliceG tyI 3 (some ⟨w.heap.size, 0, none⟩) (some ⟨vb, 0, none⟩) (k + 1) cap 1 1 w.heap.size 0 _ hg1 [.int .i64 n] m1.out (fun _ => ⟨rfl, ⟨vb, 0, none⟩, rfl, v3.out⟩) (by rw [hcl]; show 0 + 1 ≤ cap; omega) (fun v hv => by rw [List.mem_singleton.1 hv]; rfl)
  have r2 : Rd w2 (some ⟨g, 0, none⟩) k zs := (rd.below hb1 (Nat.le_refl _)).keep1 hb2 (fun b off e e' => by
    have := (f.at b off e).2
    cases e'; omega)
  have l2 : Hid ((splice cur 0 [Value.int .i64 n]).length = cap) := by show _ = _; rw [length_splice _ _ _ (by rw [hcl]; show 0 + 1 ≤ cap; omega), hcl]
  have HG2 : Hid (w2.heap[w.heap.size]? = some (.cells (splice cur 0 [Value.int .i64 n]).toArray 3 (0, 0))) := hg2
  have hwd : Hid (∀ j v, (zs.map (Value.int .i64))[j]? = some v → w2.drew.cell? ((⟨g, 0, none⟩ : Addr).add j) = some v) := fun j v hj => by
    have hj' : j < k := by have := (List.getElem?_eq_some_iff.1 hj).1; simpa [hl] using this
    obtain ⟨b, off, e, _, hc'⟩ := r2.cells (by omega)
    cases e
    have := Rd.news hl hc' j v hj
    exact this
  have hmin : Hid ((zs.map (Value.int .i64)).length = Nat.min k k) := by show _ = _; rw [List.length_map, hl]; exact (Nat.min_eq_right (by omega)).symm
  have b2 : Below B w w2 := ((hb1.mono hB)).grown hb2 (by have := hb1.size; omega) (fun k e => by cases e; exact hB)
  have hs2 : w.heap.size + 1 ≤ w2.heap.size := by
    have := (Array.getElem?_eq_some_iff.1 hg2).1
    omega
  have HC : Hid (cur.length = cap) := hcl
  have HZ : Hid ((Builtin.append_ #[23, 3] 23 #[.slice (some ⟨g, 0, none⟩) 0 c, .int .i64 ((k : Int) + 1)]).run Tryz.prog w = .ok (.slice (some ⟨w.heap.size, 0, none⟩) (k + 1) cap) w1) := by show _ = _; simpa using hz
  have t0 : ((0 : Int) == (k : Int)) = false := by simp; omega
  have t1 : decide ((c : Int) < (k : Int) + 1) = true := by simp; omega
  have w1k : IntKind.i64.wrap ((k : Int) + 1) = (k : Int) + 1 := wrapIn _ (by omega)
  have w11 : IntKind.i64.wrap 1 = 1 := wrapIn _ (by omega)
  have c1 : ¬ cap = 1 := by omega
  have c2 : (1 : Int) ≤ (k : Int) + 1 := by omega
  have c3 : ¬ cap = 0 := by omega
  have c4 : (0 : Int) ≤ (k : Int) + 1 := by omega
  have c5 : (0 : Int) ≤ (k : Int) := by omega
  have c6 : ¬ c = 0 := by omega
  have hcm2 : cap ≤ 9223372036854775807 := by unfold maxLen at hcm; omega
  clear hz hg1 hcl hg2 hvv hv v3 m1 hb1 r2 hb2 f
  go_enter Tryz.func98, Tryz.ntmps98
  go_wp2_with (at_builtin; refine Lib.wpList_append_run _ rfl _ _ _ _ rfl _ _ rfl rfl _ _ HZ.out ?_)
  go_region_law (refine step_spliceG tyI rfl (.tmp 50) (.tmp 53) rfl (some ⟨w.heap.size, 1, none⟩) (some ⟨g, 0, none⟩) k (cap - 1) k c (by simp [Act.eval, Act.put]) (by simp [Act.eval, Act.put]) w.heap.size 1 _ HG2.out (zs.map (Value.int .i64)) hmin.out (fun _ => ⟨rfl, ⟨g, 0, none⟩, rfl, hwd.out⟩) (by rw [List.length_map, hl, l2.out]; omega) (ints_one zs) ?_; intro w3 HG3 hb3)
  clear hrun HZ
  go_wp2
  go_ret
  refine ⟨_, _, rfl, Ft.row HG3.out hB (by simp [hl]) (by omega) (nth_cons n zs rd h1 h2) hcap hcm ?_ ?_, ?_⟩
  · rw [length_splice _ _ _ (by rw [List.length_map, hl, l2.out]; omega), l2.out]
  · rw [take_splices' (by rw [HC.out]; exact hcap) (by rw [List.length_map, hl])]; rfl
  · exact b2.drew.grown hb3 (by simp; omega) (fun k e => by cases e; exact hB)

theorem insert0_any (so : Option Addr) (k c : Nat) (zs : List Int) (n : Int) (vb B : Nat) (w : World) (f : Ft 3 w B so k c zs) (hv : w.heap[vb]? = some (.cells #[.int .i64 n] 3 (0, 0))) (hne : ∀ b off, so = some ⟨b, off, none⟩ → b ≠ vb) (hk : k ≤ 4096) (hB : B ≤ w.heap.size) (h1 : -9223372036854775808 ≤ n) (h2 : n ≤ 9223372036854775807) :
    Calls Tryz.prog 98 #[.slice so k c, .int .i64 0, .slice (some ⟨vb, 0, none⟩) 1 1] w fun e w' => ∃ co c', e = .returned (.slice co (k + 1) c') ∧ Ft 3 w' B co (k + 1) c' (n :: zs) ∧ Below B w w' := by
  by_cases h0 : k = 0
  · subst h0
    obtain rfl : zs = [] := List.eq_nil_of_length_eq_zero f.rd.len
    exact insert0_end so c n vb B w f hv hB h1 h2
  · rcases f.own.2 with ⟨e, h00⟩ | ⟨g, c', cur, e, _⟩
    · exact absurd h00 h0
    · cases e
      by_cases hc : k + 1 ≤ c
      · exact insert0_room g k c zs n vb B w f hv (hne g 0 rfl) (by omega) hk hc hB h1 h2
      · exact insert0_grow g k c zs n vb B w f hv (by omega) hk (by omega) hB h1 h2
end Go.Proofs.YtjpdjnkmipfmbaaGreat
