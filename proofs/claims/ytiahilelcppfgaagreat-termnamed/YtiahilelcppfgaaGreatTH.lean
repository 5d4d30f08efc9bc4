
/- Package term: what kids a node may have. -/

import Derived.Test.YtiahilelcppfgaaGreatTG

namespace Go.Proofs.YtiahilelcppfgaaGreat

open Go.RowKit

set_option linter.unusedVariables false

/-- May a node of kind k have these kids? -/
def kidB (k : Int) (n : Nat) (g : Nat → Int × ByteArray) : Bool :=
  if k = 1 ∨ k = 2 ∨ k = 20 ∨ k = 21 then kaB [] n g else
  if k = 3 then kaB [2, 1] n g else
  if k = 4 then kaB [2, 1, 1] n g else
  if k = 5 then (decide (2 ≤ n) && (decide (n ≤ 17) && kallB 1 n g)) else
  if k = 10 ∨ k = 11 then kaB [1] n g else
  if k = 12 then kaB [1, 3, 3] n g else
  if k = 13 then kaB [1, 3] n g else
  if k = 14 then kallB 4 n g else
  if k = 22 then kaB [5] n g else
  if k = 23 then kaB [3] n g else
  if k = 24 ∨ k = 25 ∨ k = 26 ∨ k = 27 ∨ k = 42 then kaB [2] n g else
  if k = 28 ∨ k = 29 ∨ k = 30 ∨ k = 31 ∨ k = 32 ∨ k = 33 ∨ k = 34 ∨ k = 35 ∨ k = 36 ∨ k = 37 ∨ k = 38 ∨ k = 44 ∨ k = 46 then kaB [2, 2] n g else
  if k = 39 then kaB [5, 2] n g else
  if k = 40 ∨ k = 41 then kaB [2, 5] n g else
  if k = 43 then (decide (2 ≤ n) && (decide (n ≤ 17) && kallB 2 n g)) else
  if k = 45 then kaB [2, 2, 2] n g else
  false
theorem wq_lit (W : World) (T : TypeId) (ps : List Nat) (hp : ∀ p, p ∈ ps → 1 ≤ p ∧ p ≤ 5) (hl : ps.length ≤ 100) : Wq (W.alloc (.cells (ps.map fv).toArray T)) (some ⟨W.heap.size, 0, none⟩) ps := by
  refine ⟨hp, hl, fun h0 => ⟨W.heap.size, 0, rfl, by simp, fun i p hi => ?_⟩⟩
  have e := cell_of_row _ W.heap.size i _ T (0, 0) (allocNew W (.cells (ps.map fv).toArray T))
  rw [Nat.zero_add]
  rw [e]
  simp [hi]
theorem wq_nil (W : World) : Wq W none [] := ⟨fun p h => (by cases h), by simp, fun h => absurd h (by simp)⟩
end Go.Proofs.YtiahilelcppfgaaGreat
