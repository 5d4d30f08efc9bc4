
/- Contract of package shape's Split, of lists that hold nothing too. -/

import Derived.Test.YtlajainnpnbcaaaCopy

import Derived.Deep.RegionWith

namespace Go.Proofs.Ytlajainnpnbcaaa

open Go.RowKit

set_option linter.unusedVariables false

def apart (ao bo : Option Addr) : Prop := ∀ a b, ao = some a → bo = some b → a.block ≠ b.block

theorem Rd.drew {w : World} {ao : Option Addr} {n : Nat} {zs : List Int} (h : Rd w ao n zs) : Rd w.drew ao n zs :=
  h.below (Below.refl _ w).drew (Nat.le_refl _)

theorem Rd.take {w : World} {ao : Option Addr} {n : Nat} {zs : List Int} (h : Rd w ao n zs) (p : Nat) (hp : p ≤ n) : Rd w ao p (zs.take p) := by
  refine ⟨by rw [List.length_take, h.len]; omega, by have := h.room; omega, fun k hk => by rw [nth_take hk]; exact h.num k (by omega), fun h0 => ?_⟩
  obtain ⟨b, off, e, hb, hc⟩ := h.cells (by omega)
  exact ⟨b, off, e, hb, fun k hk => by rw [nth_take hk]; exact hc k (by omega)⟩

theorem Rd.dropAt {w : World} {b off : Nat} {n : Nat} {zs : List Int} (h : Rd w (some ⟨b, off, none⟩) n zs) (p : Nat) (hp : p ≤ n) : Rd w (some ⟨b, off + p, none⟩) (n - p) (zs.drop p) := by
  refine ⟨by rw [List.length_drop, h.len], by have := h.room; omega, fun k hk => by rw [nth_drop]; exact h.num _ (by omega), fun h0 => ?_⟩
  obtain ⟨b', off', e, hb, hc⟩ := h.cells (by omega)
  cases e
  exact ⟨b, off + p, rfl, hb, fun k hk => by rw [nth_drop, Nat.add_assoc]; exact hc _ (by omega)⟩

theorem Rd.dropAll {w : World} {ao bo : Option Addr} {n : Nat} {zs : List Int} (h : Rd w ao n zs) (p : Nat) (hp : n ≤ p) : Rd w bo (n - p) (zs.drop p) := by
  have e : zs.drop p = [] := List.drop_eq_nil_of_le (by rw [h.len]; exact hp)
  rw [e, show n - p = 0 by omega]
  exact Rd.empty _ _

end Go.Proofs.Ytlajainnpnbcaaa

namespace Go.Proofs.Ytlajainnpnbcaaa

open Go.RowKit

set_option linter.unusedVariables false

/-- What every slice keeps: nil has no room; as long as its room at most. -/
structure Sl (ao : Option Addr) (n cap : Nat) : Prop where
  nil : ao = none → n = 0 ∧ cap = 0
  le : n ≤ cap
  max : cap ≤ 9223372036854775807

end Go.Proofs.Ytlajainnpnbcaaa
