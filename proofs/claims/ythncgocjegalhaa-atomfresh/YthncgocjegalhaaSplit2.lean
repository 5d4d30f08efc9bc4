
/- Contract of package shape's Split, of lists that hold nothing too. -/

import Derived.Test.YthncgocjegalhaaCopy

import Derived.Deep.RegionWith

namespace Go.Proofs.Ythncgocjegalhaa

open Go.RowKit

set_option linter.unusedVariables false

theorem Rd.drew {w : World} {ao : Option Addr} {n : Nat} {zs : List Int} (h : Rd w ao n zs) : Rd w.drew ao n zs :=
  h.below (Below.refl _ w).drew (Nat.le_refl _)

theorem Rd.take {w : World} {ao : Option Addr} {n : Nat} {zs : List Int} (h : Rd w ao n zs) (p : Nat) (hp : p ≤ n) : Rd w ao p (zs.take p) := by
  refine ⟨by rw [List.length_take, h.len]; omega, by have := h.room; omega, fun k hk => by rw [nth_take hk]; exact h.num k (by omega), fun h0 => ?_⟩
  obtain ⟨b, off, e, hb, hc⟩ := h.cells (by omega)
  exact ⟨b, off, e, hb, fun k hk => by rw [nth_take hk]; exact hc k (by omega)⟩

theorem Rd.dropAt {w : World} {b off : Nat} {n : Nat} {zs : List Int} (h : Rd w (some ⟨b, off, none⟩) n zs) (p : Nat) (hp : p ≤ n) : Rd w (some ⟨b, off + p, none⟩) (n - p) (zs.drop p) := by
  refine ⟨by rw [List.length_drop, h.len], by have := h.room; omega, fun k hk => by rw [nth_drop]; exact h.num _ (by omega), fun h0 => ?_⟩
  obtain ⟨b', off', e, hb, hc⟩ := h.cells (by omega)
  cases e
  exact ⟨b, off + p, rfl, hb, fun k hk => by rw [nth_drop, Nat.add_assoc]; exact hc _ (by omega)⟩

end Go.Proofs.Ythncgocjegalhaa

namespace Go.Proofs.Ythncgocjegalhaa

open Go.RowKit

set_option linter.unusedVariables false

/-- What every slice keeps: nil has no room; as long as its room at most. -/
structure Sl (ao : Option Addr) (n cap : Nat) : Prop where
  nil : ao = none → n = 0 ∧ cap = 0
  le : n ≤ cap
  max : cap ≤ 9223372036854775807

theorem Fr.sl {w : World} {B : Nat} {ao : Option Addr} {n cap : Nat} {zs : List Int} (h : Fr w B ao n cap zs) : Sl ao n cap := by
  rcases h.own.2 with ⟨e, h0⟩ | ⟨g, c, cur, e, hb, hg, hn, hm, _⟩
  · cases e; exact ⟨fun _ => ⟨rfl, rfl⟩, by omega, by omega⟩
  · cases e; exact ⟨fun e => (by cases e), hn, by unfold maxLen at hm; omega⟩

theorem Rd.ways {w : World} {ao : Option Addr} {n cap : Nat} {zs : List Int} (h : Rd w ao n zs) (hs : Sl ao n cap) : (ao = none ∧ n = 0 ∧ cap = 0 ∧ zs = []) ∨ (∃ a, ao = some a ∧ n = 0 ∧ zs = []) ∨ ∃ b off, ao = some ⟨b, off, none⟩ ∧ 0 < n := by
  by_cases h0 : n = 0
  · have hz : zs = [] := List.eq_nil_of_length_eq_zero (by rw [h.len, h0])
    cases ao with
    | none => exact .inl ⟨rfl, h0, (hs.nil rfl).2, hz⟩
    | some a => exact .inr (.inl ⟨a, rfl, h0, hz⟩)
  · obtain ⟨b, off, e, _⟩ := h.cells (by omega)
    exact .inr (.inr ⟨b, off, e, by omega⟩)

end Go.Proofs.Ythncgocjegalhaa
