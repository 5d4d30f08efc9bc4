
/- Contract: an array's atoms are laid: the walk. -/

import Derived.Test.YtcknmfhbjkadcaaGreatDoorC10

import Derived.Test.YtcknmfhbjkadcaaGreatDoorThere1

import Derived.Test.YtcknmfhbjkadcaaGreatDoorThereMath

namespace Go.Proofs.YtcknmfhbjkadcaaGreatDoor

open Go.RowKit Go.Shelf

attribute [local go_sem] Oper.semAt_some

set_option linter.unusedVariables false

theorem heap_keptL {W W' : World} {B l : Nat} {o : Obj} {r : Loop} (h : W.heap[B]? = some o) (ho : ∀ r, o ≠ .loop r) (hg : W.grownBy W' (some l)) (hl : W.heap[l]? = some (.loop r)) : W'.heap[B]? = some o := by
  refine (hg.block B (Array.getElem?_eq_some_iff.1 h).1 (fun e => ?_)).trans h
  cases e
  rw [hl] at h
  exact ho r (by cases h; rfl)
theorem boxed_kept' {W W' : World} {B l : Nat} {t : TypeId} {v : Value} {r : Loop} (h : Boxed W B t v) (hg : W.grownBy W' (some l)) (hl : W.heap[l]? = some (.loop r)) : Boxed W' B t v := heap_keptL h (fun r e => by cases e) hg hl
end Go.Proofs.YtcknmfhbjkadcaaGreatDoor
