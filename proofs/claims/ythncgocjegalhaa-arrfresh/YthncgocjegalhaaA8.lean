
/- Contract: an item without atoms. -/

import Derived.Test.YthncgocjegalhaaA7

namespace Go.Proofs.Ythncgocjegalhaa

open Go.RowKit

set_option linter.unusedVariables false

set_option maxHeartbeats 4000000 in
set_option maxRecDepth 20000 in
theorem item_none (so ao : Option Addr) (sn sc an ac : Nat) (sh at' : List Int) (i : Int) (w : World) (h : Rd w so sn sh) (hs : Sl so sn sc) (g : Rd w ao an at') (gs : Sl ao an ac) (h0 : mayA sh at' = 0) (N j z : Nat) (hN : tal sh = N) (hN4 : N ≤ 4096) (han : an ≤ 4096) (hj : j < N) (hi0 : i = j ∨ (i + N = j ∧ i < 0)) (hz : (an : Int) / (N : Int) = z) (hb : (j + 1) * z ≤ an) (hz1 : z = 0) (hao : ao = none) :
    Calls Try.prog 17 #[.agg #[.slice so sn sc, .slice ao an ac], .int .i64 i] w fun e w' => ∃ o1 n1 c1 o2 c2, e = .returned (.tuple #[.agg #[.slice o1 n1 c1, .slice o2 z c2], .int .i64 0]) ∧ Ft 3 w' w.heap.size o1 n1 c1 (sh.drop 1) ∧ Ft 2 w' w.heap.size o2 z c2 ((at'.drop (j * z)).take z) ∧ apart o1 o2 ∧ Below w.heap.size w w' := by
  have hsl := fun h0 => h.lt h0
  have hal := fun h0 => g.lt h0
  have I0 := it_start w so sn sc ao an ac sh at' h g
  have hm := mayA_any so ao sn sc an ac sh at' _ I0.s I0.a
  have ht := fun W (x : Rd W so sn sh) => tally_any so ao sn sc an ac sh W x
  rw [h0] at hm
  rw [hN] at ht
  clear h0 hN
  have hN0 : ((N : Int) == 0) = false := by simp; omega
  have hgle := gs.le
  have hgmx := gs.max
  subst hz1 hao
  obtain ⟨rfl, rfl⟩ := gs.nil rfl
  have w2 : IntKind.i64.wrap ((j : Int) + 1) = (j : Int) + 1 := wrapIn _ (by omega)
  have w0 : IntKind.i64.wrap 0 = 0 := wrapIn _ (by omega)
  simp only [Nat.mul_zero, Int.natCast_zero, List.drop_zero, List.take_zero] at hz ⊢
  have hw : (i = (j : Int)) ∨ (-(N : Int) ≤ i ∧ i < (N : Int) ∧ i < 0 ∧ i + (N : Int) = (j : Int)) := by omega
  have hj1 : (j : Int) < N := by omega
  have hj2 : -(N : Int) ≤ j := by omega
  clear hi0
  rcases hw with rfl | ⟨d1, d2, d3, d4⟩
  all_goals
    go_enter Try.func17, Try.ntmps17
    go_wp2_with (first
      | (go_at_call 21; refine hm.mono ?_; rintro e W1 ⟨rfl, h1⟩; have I1 := I0.below h1; obtain ⟨p0, p1, _, _, _, _⟩ := I1)
      | (go_at_call 31; refine (ht _ (I0.below h1).s).mono ?_; rintro e W2 ⟨rfl, h2⟩; have I2 := ((I0.below h1).below h2).u; obtain ⟨q0, q1, _, _, _, _⟩ := I2))
    have I2 := ((I0.below h1).below h2).u
    have hsz : w.heap.size + 1 < W2.heap.size := (Array.getElem?_eq_some_iff.1 ((I0.below h1).below h2).r).1
    go_region_held3 (fun W => W.cell? ⟨w.heap.size, 0, none⟩ = some (.slice so sn sc) ∧ W.cell? ⟨w.heap.size, 1, none⟩ = some (.slice none 0 0) ∧ Iu w W so sn sc none 0 0 sh at') (first | exact Iu.all (by assumption) | exact Iu.all (Iu.drew (by assumption)) | exact Iu.all (Iu.set (by assumption) hsl hal _ _))
      (first
        | (go_at_call 33; refine (itemShape_any so _ sn sc 0 0 sh _ (‹_ ∧ _ ∧ Iu w _ so sn sc _ 0 0 sh at'›).2.2.s hs).mono ?_; rintro e w3 ⟨o3, c3, rfl, r3, s3, h3⟩; have I3 := (‹_ ∧ _ ∧ Iu w _ so sn sc _ 0 0 sh at'›).2.2.below h3)
        | (go_at_call 32; refine (clone_any _ _ _ _ _ r3 s3).mono ?_; rintro e w4 ⟨o4, c4, rfl, f4, h4⟩; have I4 := I3.below h4)
        | (go_at_call 30; refine (clone8_any _ _ _ _ _ (Rd.empty _ _) ⟨fun _ => ⟨rfl, rfl⟩, by omega, by omega⟩).mono ?_; rintro e w5 ⟨o5, c5, rfl, f5, h5⟩; have I5 := I4.below h5; obtain ⟨x5, y5, hr5⟩ := I5.r; obtain ⟨k0, k1, z0, z1⟩ := box2 hr5))
    go_wp2
    (try simp only [Exit.inBlock, Exit.then])
    refine bodyPost_ret (v := .tuple #[.agg #[.slice o4 (sn - 1) c4, .slice o5 0 c5], .int .i64 0]) (by rw [results_cell_tmp rfl]; go_simp) rfl ?_
    exact item_end hsz h3 f4 h4 f5 h5 I5.bel

set_option maxHeartbeats 4000000 in
set_option maxRecDepth 20000 in
theorem item_zero (so ao : Option Addr) (sn sc an ac : Nat) (sh at' : List Int) (i : Int) (w : World) (h : Rd w so sn sh) (hs : Sl so sn sc) (g : Rd w ao an at') (gs : Sl ao an ac) (h0 : mayA sh at' = 0) (N j z : Nat) (hN : tal sh = N) (hN4 : N ≤ 4096) (han : an ≤ 4096) (hj : j < N) (hi0 : i = j ∨ (i + N = j ∧ i < 0)) (hz : (an : Int) / (N : Int) = z) (hb : (j + 1) * z ≤ an) (hz1 : z = 0) (a : Addr) (hao : ao = some a) :
    Calls Try.prog 17 #[.agg #[.slice so sn sc, .slice ao an ac], .int .i64 i] w fun e w' => ∃ o1 n1 c1 o2 c2, e = .returned (.tuple #[.agg #[.slice o1 n1 c1, .slice o2 z c2], .int .i64 0]) ∧ Ft 3 w' w.heap.size o1 n1 c1 (sh.drop 1) ∧ Ft 2 w' w.heap.size o2 z c2 ((at'.drop (j * z)).take z) ∧ apart o1 o2 ∧ Below w.heap.size w w' := by
  have hsl := fun h0 => h.lt h0
  have hal := fun h0 => g.lt h0
  have I0 := it_start w so sn sc ao an ac sh at' h g
  have hm := mayA_any so ao sn sc an ac sh at' _ I0.s I0.a
  have ht := fun W (x : Rd W so sn sh) => tally_any so ao sn sc an ac sh W x
  rw [h0] at hm
  rw [hN] at ht
  clear h0 hN
  have hN0 : ((N : Int) == 0) = false := by simp; omega
  have hgle := gs.le
  have hgmx := gs.max
  subst hz1 hao
  have w2 : IntKind.i64.wrap ((j : Int) + 1) = (j : Int) + 1 := wrapIn _ (by omega)
  have w0 : IntKind.i64.wrap 0 = 0 := wrapIn _ (by omega)
  simp only [Nat.mul_zero, Int.natCast_zero, List.drop_zero, List.take_zero] at hz ⊢
  have hw : (i = (j : Int)) ∨ (-(N : Int) ≤ i ∧ i < (N : Int) ∧ i < 0 ∧ i + (N : Int) = (j : Int)) := by omega
  have hj1 : (j : Int) < N := by omega
  have hj2 : -(N : Int) ≤ j := by omega
  clear hi0
  have hac : ac = 0 ∨ 0 < ac := by omega
  rcases hac with rfl | hac
  · obtain rfl : an = 0 := by omega
    rcases hw with rfl | ⟨d1, d2, d3, d4⟩
    all_goals
      go_enter Try.func17, Try.ntmps17
      go_wp2_with (first
        | (go_at_call 21; refine hm.mono ?_; rintro e W1 ⟨rfl, h1⟩; have I1 := I0.below h1; obtain ⟨p0, p1, _, _, _, _⟩ := I1)
        | (go_at_call 31; refine (ht _ (I0.below h1).s).mono ?_; rintro e W2 ⟨rfl, h2⟩; have I2 := ((I0.below h1).below h2).u; obtain ⟨q0, q1, _, _, _, _⟩ := I2))
      have I2 := ((I0.below h1).below h2).u
      have hsz : w.heap.size + 1 < W2.heap.size := (Array.getElem?_eq_some_iff.1 ((I0.below h1).below h2).r).1
      go_region_held3 (fun W => W.cell? ⟨w.heap.size, 0, none⟩ = some (.slice so sn sc) ∧ W.cell? ⟨w.heap.size, 1, none⟩ = some (.slice (some a) 0 0) ∧ Iu w W so sn sc (some a) 0 0 sh at') (first | exact Iu.all (by assumption) | exact Iu.all (Iu.drew (by assumption)) | exact Iu.all (Iu.set (by assumption) hsl hal _ _))
        (first
          | (go_at_call 33; refine (itemShape_any so _ sn sc 0 0 sh _ (‹_ ∧ _ ∧ Iu w _ so sn sc _ 0 0 sh at'›).2.2.s hs).mono ?_; rintro e w3 ⟨o3, c3, rfl, r3, s3, h3⟩; have I3 := (‹_ ∧ _ ∧ Iu w _ so sn sc _ 0 0 sh at'›).2.2.below h3)
          | (go_at_call 32; refine (clone_any _ _ _ _ _ r3 s3).mono ?_; rintro e w4 ⟨o4, c4, rfl, f4, h4⟩; have I4 := I3.below h4)
          | (go_at_call 30; refine (clone8_any _ _ _ _ _ (Rd.empty _ _) ⟨fun e => (by cases e), by omega, by omega⟩).mono ?_; rintro e w5 ⟨o5, c5, rfl, f5, h5⟩; have I5 := I4.below h5; obtain ⟨x5, y5, hr5⟩ := I5.r; obtain ⟨k0, k1, z0, z1⟩ := box2 hr5))
      go_wp2
      (try simp only [Exit.inBlock, Exit.then])
      refine bodyPost_ret (v := .tuple #[.agg #[.slice o4 (sn - 1) c4, .slice o5 0 c5], .int .i64 0]) (by rw [results_cell_tmp rfl]; go_simp) rfl ?_
      exact item_end hsz h3 f4 h4 f5 h5 I5.bel
  · have hac1 : ¬ ac = 0 := by omega
    have hac2 : (0 : Int) ≤ (ac : Int) := by omega
    rcases hw with rfl | ⟨d1, d2, d3, d4⟩
    all_goals
      go_enter Try.func17, Try.ntmps17
      go_wp2_with (first
        | (go_at_call 21; refine hm.mono ?_; rintro e W1 ⟨rfl, h1⟩; have I1 := I0.below h1; obtain ⟨p0, p1, _, _, _, _⟩ := I1)
        | (go_at_call 31; refine (ht _ (I0.below h1).s).mono ?_; rintro e W2 ⟨rfl, h2⟩; have I2 := ((I0.below h1).below h2).u; obtain ⟨q0, q1, _, _, _, _⟩ := I2))
      have I2 := ((I0.below h1).below h2).u
      have hsz : w.heap.size + 1 < W2.heap.size := (Array.getElem?_eq_some_iff.1 ((I0.below h1).below h2).r).1
      go_region_held3 (fun W => W.cell? ⟨w.heap.size, 0, none⟩ = some (.slice so sn sc) ∧ W.cell? ⟨w.heap.size, 1, none⟩ = some (.slice (some a) an ac) ∧ Iu w W so sn sc (some a) an ac sh at') (first | exact Iu.all (by assumption) | exact Iu.all (Iu.drew (by assumption)) | exact Iu.all (Iu.set (by assumption) hsl hal _ _))
        (first
          | (go_at_call 33; refine (itemShape_any so _ sn sc an ac sh _ (‹_ ∧ _ ∧ Iu w _ so sn sc _ an ac sh at'›).2.2.s hs).mono ?_; rintro e w3 ⟨o3, c3, rfl, r3, s3, h3⟩; have I3 := (‹_ ∧ _ ∧ Iu w _ so sn sc _ an ac sh at'›).2.2.below h3)
          | (go_at_call 32; refine (clone_any _ _ _ _ _ r3 s3).mono ?_; rintro e w4 ⟨o4, c4, rfl, f4, h4⟩; have I4 := I3.below h4)
          | (go_at_call 30; refine (clone8_any _ _ _ _ _ (Rd.empty _ _) ⟨fun e => (by cases e), by omega, by omega⟩).mono ?_; rintro e w5 ⟨o5, c5, rfl, f5, h5⟩; have I5 := I4.below h5; obtain ⟨x5, y5, hr5⟩ := I5.r; obtain ⟨k0, k1, z0, z1⟩ := box2 hr5))
      go_wp2
      (try simp only [Exit.inBlock, Exit.then])
      refine bodyPost_ret (v := .tuple #[.agg #[.slice o4 (sn - 1) c4, .slice o5 0 c5], .int .i64 0]) (by rw [results_cell_tmp rfl]; go_simp) rfl ?_
      exact item_end hsz h3 f4 h4 f5 h5 I5.bel
end Go.Proofs.Ythncgocjegalhaa
