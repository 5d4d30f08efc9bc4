
/- Contract of package shape's Split. -/

import Derived.Test.YtlncjmeabonpfaaCopy
import Derived.Deep.RegionWith


namespace Go.Proofs.Ytlncjmeabonpfaa

open Go.RowKit

set_option linter.unusedVariables false

def apart (ao bo : Option Addr) : Prop := ∀ a b, ao = some a → bo = some b → a.block ≠ b.block

theorem Rd.drew {w : World} {ao : Option Addr} {n : Nat} {zs : List Int} (h : Rd w ao n zs) : Rd w.drew ao n zs :=
  h.below (Below.refl _ w).drew (Nat.le_refl _)

theorem Rd.take {w : World} {ao : Option Addr} {n : Nat} {zs : List Int} (h : Rd w ao n zs) (p : Nat) (hp : p ≤ n) : Rd w ao p (zs.take p) := by
  refine ⟨by rw [List.length_take, h.len]; omega, by have := h.room; omega, fun k hk => by rw [nth_take hk]; exact h.num k (by omega), fun h0 => ?_⟩
  obtain ⟨b, off, e, hb, hc⟩ := h.cells (by omega)
  exact ⟨b, off, e, hb, fun k hk => by rw [nth_take hk]; exact hc k (by omega)⟩

theorem Rd.dropAt {w : World} {b off : Nat} {n : Nat} {zs : List Int} (h : Rd w (some ⟨b, off, none⟩) n zs) (p : Nat) (hp : p ≤ n) : Rd w (some ⟨b, off + p, none⟩) (n - p) (zs.drop p) := by
  refine ⟨by rw [List.length_drop, h.len], by have := h.room; omega, fun k hk => by rw [nth_drop]; exact h.num _ (by omega), fun h0 => ?_⟩
  obtain ⟨b', off', e, hb, hc⟩ := h.cells (by omega)
  cases e
  exact ⟨b, off + p, rfl, hb, fun k hk => by rw [nth_drop, Nat.add_assoc]; exact hc _ (by omega)⟩

theorem Rd.dropAll {w : World} {ao bo : Option Addr} {n : Nat} {zs : List Int} (h : Rd w ao n zs) (p : Nat) (hp : n ≤ p) : Rd w bo (n - p) (zs.drop p) := by
  have e : zs.drop p = [] := List.drop_eq_nil_of_le (by rw [h.len]; exact hp)
  rw [e, show n - p = 0 by omega]
  exact Rd.empty _ _

theorem two_own {w w1 w2 : World} {ao1 ao2 : Option Addr} {p q cap1 cap2 : Nat} {l1 l2 : List Int} (hf1 : Fr w1 w.drew.heap.size ao1 p cap1 l1) (hb1 : Below w.drew.heap.size w.drew w1)
    (hf2 : Fr w2 w1.heap.size ao2 q cap2 l2) (hb2 : Below w1.heap.size w1 w2) : Fr w2 w.heap.size ao1 p cap1 l1 ∧ Fr w2 w.heap.size ao2 q cap2 l2 ∧ apart ao1 ao2 ∧ Below w.heap.size w w2 := by
  have hs : w.heap.size ≤ w1.heap.size := hb1.size
  refine ⟨hf1.below hb2 (Nat.le_refl _), hf2.mono hs, ?_, (Below.refl _ w).drew.trans (hb1.trans (hb2.mono hs))⟩
  intro a b ea eb
  rcases hf1.own.2 with ⟨e, _⟩ | ⟨g, c, cur, e, h1, hg, _⟩
  · cases e; cases ea
  · rcases hf2.own.2 with ⟨e2, _⟩ | ⟨g2, c2, cur2, e2, h2, hg2, _⟩
    · cases e2; cases eb
    · cases e; cases e2; cases ea; cases eb
      have := (Array.getElem?_eq_some_iff.1 hg).1
      simp; omega

end Go.Proofs.Ytlncjmeabonpfaa
