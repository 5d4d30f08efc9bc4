
/- Contracts of package shape's Agree, and of the document's own Agree and Split. -/

import Derived.Test.YtcknmfhbjkadcaaDoorSplit2

import Derived.Test.YtcknmfhbjkadcaaDoorSize

import Derived.Test.YtcknmfhbjkadcaaDoorCopy

import Derived.Deep.RegionLaw

namespace Go.Proofs.YtcknmfhbjkadcaaDoor

open Go.RowKit

set_option linter.unusedVariables false

theorem below_drewN {B : Nat} {a w : World} (h : Below B a w) : ∀ n, Below B a (w.drewN n)
  | 0 => h
  | n + 1 => ⟨(below_drewN h n).os, (below_drewN h n).tape, (below_drewN h n).output, (below_drewN h n).size, (below_drewN h n).block⟩

/-- A copy made by an append to nil, when it is run. -/
theorem run_copy {w : World} (ty : TypeId) (ao : Option Addr) (n cap : Nat) (zs : List Int) (h : Rd w ao n zs) :
    ∃ ao' cap' w', (Builtin.append_ #[22, 22] ty #[.slice none 0 0, .slice ao n cap]).run Tryd.prog w = .ok (.slice ao' n cap') w' ∧ Fr w' w.heap.size ao' n cap' zs ∧ Below w.heap.size w w' := by
  have hroom := h.room
  have hlen := h.len
  by_cases h0 : n = 0
  · subst h0
    have hz : zs = [] := List.eq_nil_of_length_eq_zero hlen
    subst hz
    exact ⟨none, 0, w, append_nothing _ _ _ _, Fr.nil _ _, Below.refl _ _⟩
  · obtain ⟨b, off, rfl, hb, hc⟩ := h.cells (by omega)
    obtain ⟨i0, hi, hz0, hz1, hz2⟩ := info_parts info3
    obtain ⟨v', w', hrun, hown, hgrow, _⟩ := run_append_own (P := Tryd.prog) w w.heap.size 22 ty 3 i0 (.int .i64 0) 1 8 Tryd.underlying22 hi hz0 hz1 hz2 rfl (by decide) (.slice none 0 0) 0 [] (World.ownsRow_nil _ _ _ _) ⟨b, off, none⟩ n cap (zs.map (Value.int .i64)) (by rw [List.length_map, hlen, Nat.mul_one]) (Rd.news hlen hc) (ints_one zs) (by unfold maxLen; omega) (by omega) (Nat.le_refl _)
    rw [Nat.zero_add, List.nil_append] at hown
    obtain ⟨ao', cap', rfl, hfr⟩ := Fr.mk' hlen hroom h.num hown
    exact ⟨ao', cap', w', hrun, hfr, (Below.refl _ _).grown hgrow (Nat.le_refl _) (fun k e => by simp [Value.ownBlock] at e)⟩

end Go.Proofs.YtcknmfhbjkadcaaDoor
