
/- Contract of package shape's Split, of lists that hold nothing too. -/

import Derived.Test.YtlncjmeabonpfaaSplit

namespace Go.Proofs.Ytlncjmeabonpfaa

open Go.RowKit

set_option linter.unusedVariables false

/-- What every slice keeps: nil has no room; as long as its room at most. -/
structure Sl (ao : Option Addr) (n cap : Nat) : Prop where
  nil : ao = none → n = 0 ∧ cap = 0
  le : n ≤ cap
  max : cap ≤ 9223372036854775807

theorem Fr.sl {w : World} {B : Nat} {ao : Option Addr} {n cap : Nat} {zs : List Int} (h : Fr w B ao n cap zs) : Sl ao n cap := by
  rcases h.own.2 with ⟨e, h0⟩ | ⟨g, c, cur, e, hb, hg, hn, hm, _⟩
  · cases e; exact ⟨fun _ => ⟨rfl, rfl⟩, by omega, by omega⟩
  · cases e; exact ⟨fun e => (by cases e), hn, by unfold maxLen at hm; omega⟩

theorem Rd.ways {w : World} {ao : Option Addr} {n cap : Nat} {zs : List Int} (h : Rd w ao n zs) (hs : Sl ao n cap) : (ao = none ∧ n = 0 ∧ cap = 0 ∧ zs = []) ∨ (∃ a, ao = some a ∧ n = 0 ∧ zs = []) ∨ ∃ b off, ao = some ⟨b, off, none⟩ ∧ 0 < n := by
  by_cases h0 : n = 0
  · have hz : zs = [] := List.eq_nil_of_length_eq_zero (by rw [h.len, h0])
    cases ao with
    | none => exact .inl ⟨rfl, h0, (hs.nil rfl).2, hz⟩
    | some a => exact .inr (.inl ⟨a, rfl, h0, hz⟩)
  · obtain ⟨b, off, e, _⟩ := h.cells (by omega)
    exact .inr (.inr ⟨b, off, e, by omega⟩)

end Go.Proofs.Ytlncjmeabonpfaa
