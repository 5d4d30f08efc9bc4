
/- Contract: an item. -/

import Derived.Test.YthncgocjegalhaaA5

import Derived.Deep.RegionHeld3

namespace Go.Proofs.Ythncgocjegalhaa

open Go.RowKit

set_option linter.unusedVariables false

/-- Between the statements of Item: its box, the answer's box, the lists. -/
structure It (w W : World) (so : Option Addr) (sn sc : Nat) (ao : Option Addr) (an ac : Nat) (sh at' : List Int) : Prop where
  c0 : W.cell? ⟨w.heap.size, 0, none⟩ = some (.slice so sn sc)
  c1 : W.cell? ⟨w.heap.size, 1, none⟩ = some (.slice ao an ac)
  r : W.heap[w.heap.size + 1]? = some (.cells #[.slice none 0 0, .slice none 0 0] 36 (0, 0))
  s : Rd W so sn sh
  a : Rd W ao an at'
  bel : Below w.heap.size w W
theorem It.below {w W W' : World} {so : Option Addr} {sn sc : Nat} {ao : Option Addr} {an ac : Nat} {sh at' : List Int} (h : It w W so sn sc ao an ac sh at') (k : Below W.heap.size W W') : It w W' so sn sc ao an ac sh at' := by
  have l0 := World.block_lt_of_cell? W _ h.c0
  have l1 := (Array.getElem?_eq_some_iff.1 h.r).1
  exact ⟨(k.cell (p := ⟨w.heap.size, 0, none⟩) l0).trans h.c0, (k.cell (p := ⟨w.heap.size, 1, none⟩) l0).trans h.c1, (k.block _ l1).trans h.r, h.s.below k (Nat.le_refl _), h.a.below k (Nat.le_refl _), h.bel.trans (k.mono h.bel.size)⟩
theorem It.drew {w W : World} {so : Option Addr} {sn sc : Nat} {ao : Option Addr} {an ac : Nat} {sh at' : List Int} (h : It w W so sn sc ao an ac sh at') : It w W.drew so sn sc ao an ac sh at' :=
  h.below (Below.refl _ W).drew
theorem it_start (w : World) (so : Option Addr) (sn sc : Nat) (ao : Option Addr) (an ac : Nat) (sh at' : List Int) (h : Rd w so sn sh) (g : Rd w ao an at') :
    It w ((w.alloc (.cells #[.slice so sn sc, .slice ao an ac] 36)).alloc (.cells #[.slice none 0 0, .slice none 0 0] 36)) so sn sc ao an ac sh at' := by
  have t := two_boxes w so ao none none sn sc an ac 0 0 0 0
  have b1 := allocNew (w.alloc (.cells #[.slice so sn sc, .slice ao an ac] 36)) (.cells #[.slice none 0 0, .slice none 0 0] 36)
  rw [World.size_alloc] at b1
  exact ⟨t.s0, t.a0, b1, h.below t.bel (Nat.le_refl _), g.below t.bel (Nat.le_refl _), t.bel⟩

set_option maxHeartbeats 1000000 in
theorem item_may (so ao : Option Addr) (sn sc an ac : Nat) (sh at' : List Int) (i : Int) (w : World) (h : Rd w so sn sh) (g : Rd w ao an at') (h0 : mayA sh at' ≠ 0) :
    Calls Try.prog 17 #[.agg #[.slice so sn sc, .slice ao an ac], .int .i64 i] w fun e w' => e = .returned (.tuple #[.agg #[.slice none 0 0, .slice none 0 0], .int .i64 1]) ∧ Below w.heap.size w w' := by
  have I0 := it_start w so sn sc ao an ac sh at' h g
  have hm := mayA_any so ao sn sc an ac sh at' _ I0.s I0.a
  have h0' : (mayA sh at' != 0) = true := by simpa using h0
  clear h0
  go_enter Try.func17, Try.ntmps17
  go_wp2_with (go_at_call 21; refine hm.mono ?_; rintro e w1 ⟨rfl, h1⟩; have I1 := I0.below h1; obtain ⟨c0, c1, z0, z1⟩ := box2 I1.r)
  (try simp only [Exit.inBlock, Exit.then])
  refine bodyPost_ret (v := .tuple #[.agg #[.slice none 0 0, .slice none 0 0], .int .i64 1]) (by rw [results_cell_tmp rfl]; go_simp) rfl ?_
  exact ⟨rfl, below_set2 _ _ _ _ I1.bel (by omega) (Nat.le_refl _)⟩

set_option maxHeartbeats 1000000 in
theorem item_out (so ao : Option Addr) (sn sc an ac : Nat) (sh at' : List Int) (i : Int) (w : World) (h : Rd w so sn sh) (g : Rd w ao an at') (h0 : mayA sh at' = 0) (N : Nat) (hN : tal sh = N) (hN4 : N ≤ 4096) (hi : i < -(N : Int) ∨ (N : Int) ≤ i) :
    Calls Try.prog 17 #[.agg #[.slice so sn sc, .slice ao an ac], .int .i64 i] w fun e w' => e = .returned (.tuple #[.agg #[.slice none 0 0, .slice none 0 0], .int .i64 13]) ∧ Below w.heap.size w w' := by
  have I0 := it_start w so sn sc ao an ac sh at' h g
  have hm := mayA_any so ao sn sc an ac sh at' _ I0.s I0.a
  have ht := fun W (x : Rd W so sn sh) => tally_any so ao sn sc an ac sh W x
  rw [h0] at hm
  rw [hN] at ht
  clear h0 hN
  have hi' : (decide (i < -(N : Int)) = true) ∨ (decide (i < -(N : Int)) = false ∧ decide ((N : Int) ≤ i) = true) := by
    simp only [decide_eq_true_eq, decide_eq_false_iff_not]; omega
  clear hi
  rcases hi' with hi | ⟨hi, hj⟩
  all_goals
    go_enter Try.func17, Try.ntmps17
    go_wp2_with (first
      | (go_at_call 21; refine hm.mono ?_; rintro e w1 ⟨rfl, h1⟩; have I1 := I0.below h1; obtain ⟨p0, p1, _, _, _, _⟩ := I1)
      | (go_at_call 31; refine (ht _ (I0.below h1).s).mono ?_; rintro e w2 ⟨rfl, h2⟩; have I2 := (I0.below h1).below h2; obtain ⟨c0, c1, z0, z1⟩ := box2 I2.r))
    (try simp only [Exit.inBlock, Exit.then])
    refine bodyPost_ret (v := .tuple #[.agg #[.slice none 0 0, .slice none 0 0], .int .i64 13]) (by rw [results_cell_tmp rfl]; go_simp) rfl ?_
    exact ⟨rfl, below_set2 _ _ _ _ I2.bel (by omega) (Nat.le_refl _)⟩
end Go.Proofs.Ythncgocjegalhaa
