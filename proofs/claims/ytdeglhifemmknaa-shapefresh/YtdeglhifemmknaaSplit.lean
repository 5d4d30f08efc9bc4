
/- Contract of package shape's Split. -/

import Derived.Test.YtdeglhifemmknaaCopy

import Derived.Deep.RegionWith

namespace Go.Proofs.Ytdeglhifemmknaa

open Go.RowKit

set_option linter.unusedVariables false

def apart (ao bo : Option Addr) : Prop := ∀ a b, ao = some a → bo = some b → a.block ≠ b.block

theorem Rd.drew {w : World} {ao : Option Addr} {n : Nat} {zs : List Int} (h : Rd w ao n zs) : Rd w.drew ao n zs :=
  h.below (Below.refl _ w).drew (Nat.le_refl _)

theorem Rd.take {w : World} {ao : Option Addr} {n : Nat} {zs : List Int} (h : Rd w ao n zs) (p : Nat) (hp : p ≤ n) : Rd w ao p (zs.take p) := by
  refine ⟨by rw [List.length_take, h.len]; omega, by have := h.room; omega, fun k hk => by rw [nth_take hk]; exact h.num k (by omega), fun h0 => ?_⟩
  obtain ⟨b, off, e, hb, hc⟩ := h.cells (by omega)
  exact ⟨b, off, e, hb, fun k hk => by rw [nth_take hk]; exact hc k (by omega)⟩

theorem Rd.dropAt {w : World} {b off : Nat} {n : Nat} {zs : List Int} (h : Rd w (some ⟨b, off, none⟩) n zs) (p : Nat) (hp : p ≤ n) : Rd w (some ⟨b, off + p, none⟩) (n - p) (zs.drop p) := by
  refine ⟨by rw [List.length_drop, h.len], by have := h.room; omega, fun k hk => by rw [nth_drop]; exact h.num _ (by omega), fun h0 => ?_⟩
  obtain ⟨b', off', e, hb, hc⟩ := h.cells (by omega)
  cases e
  exact ⟨b, off + p, rfl, hb, fun k hk => by rw [nth_drop, Nat.add_assoc]; exact hc _ (by omega)⟩

theorem Rd.dropAll {w : World} {ao bo : Option Addr} {n : Nat} {zs : List Int} (h : Rd w ao n zs) (p : Nat) (hp : n ≤ p) : Rd w bo (n - p) (zs.drop p) := by
  have e : zs.drop p = [] := List.drop_eq_nil_of_le (by rw [h.len]; exact hp)
  rw [e, show n - p = 0 by omega]
  exact Rd.empty _ _

theorem two_own {w w1 w2 : World} {ao1 ao2 : Option Addr} {p q cap1 cap2 : Nat} {l1 l2 : List Int} (hf1 : Fr w1 w.drew.heap.size ao1 p cap1 l1) (hb1 : Below w.drew.heap.size w.drew w1)
    (hf2 : Fr w2 w1.heap.size ao2 q cap2 l2) (hb2 : Below w1.heap.size w1 w2) : Fr w2 w.heap.size ao1 p cap1 l1 ∧ Fr w2 w.heap.size ao2 q cap2 l2 ∧ apart ao1 ao2 ∧ Below w.heap.size w w2 := by
  have hs : w.heap.size ≤ w1.heap.size := hb1.size
  refine ⟨hf1.below hb2 (Nat.le_refl _), hf2.mono hs, ?_, (Below.refl _ w).drew.trans (hb1.trans (hb2.mono hs))⟩
  intro a b ea eb
  rcases hf1.own.2 with ⟨e, _⟩ | ⟨g, c, cur, e, h1, hg, _⟩
  · cases e; cases ea
  · rcases hf2.own.2 with ⟨e2, _⟩ | ⟨g2, c2, cur2, e2, h2, hg2, _⟩
    · cases e2; cases eb
    · cases e; cases e2; cases ea; cases eb
      have := (Array.getElem?_eq_some_iff.1 hg).1
      simp; omega

set_option maxHeartbeats 2000000 in
theorem split_some (b off : Nat) (n cap : Nat) (zs : List Int) (r : Int) (w : World) (h : Rd w (some ⟨b, off, none⟩) n zs) (hcap : n ≤ cap) (hcap2 : cap ≤ 9223372036854775807) (h1 : -9223372036854775808 ≤ r) (h2 : r ≤ 9223372036854775807) :
    Calls Try.prog 15 #[.slice (some ⟨b, off, none⟩) n cap, .int .i64 r] w fun e w' => ∃ ao1 cap1 ao2 cap2, e = .returned (.tuple #[.slice ao1 (n - rankF n r) cap1, .slice ao2 (n - (n - rankF n r)) cap2]) ∧
      Fr w' w.heap.size ao1 (n - rankF n r) cap1 (zs.take (n - rankF n r)) ∧ Fr w' w.heap.size ao2 (n - (n - rankF n r)) cap2 (zs.drop (n - rankF n r)) ∧ apart ao1 ao2 ∧ Below w.heap.size w w' := by
  have hroom := h.room
  have hrk := rankF_le n r
  have hr := fun w => cellRank_any n r w hroom h1 h2
  generalize rankF n r = c at *
  have hc1 : ∀ W, Rd W (some ⟨b, off, none⟩) n zs → Calls Try.prog 28 #[.slice (some ⟨b, off, none⟩) (n - c) cap] W fun e w' => ∃ ao' cap', e = .returned (.slice ao' (n - c) cap') ∧ Fr w' W.heap.size ao' (n - c) cap' (zs.take (n - c)) ∧ Below W.heap.size W w' ∧ Rd w' (some ⟨b, off, none⟩) n zs :=
    fun W hW => (copied_any _ _ _ _ _ (hW.take (n - c) (by omega))).mono fun e w' ⟨a, k, e1, e2, e3⟩ => ⟨a, k, e1, e2, e3, hW.below e3 (Nat.le_refl _)⟩
  by_cases hq : cap = n - c
  · have hc2 : ∀ W, Rd W (some ⟨b, off, none⟩) n zs → Calls Try.prog 28 #[.slice (some ⟨b, off, none⟩) (n - (n - c)) (cap - (n - c))] W fun e w' => ∃ ao' cap', e = .returned (.slice ao' (n - (n - c)) cap') ∧ Fr w' W.heap.size ao' (n - (n - c)) cap' (zs.drop (n - c)) ∧ Below W.heap.size W w' ∧ Rd w' (some ⟨b, off, none⟩) n zs :=
      fun W hW => (copied_any _ _ _ _ _ (hW.dropAll (n - c) (by omega))).mono fun e w' ⟨a, k, e1, e2, e3⟩ => ⟨a, k, e1, e2, e3, hW.below e3 (Nat.le_refl _)⟩
    obtain rfl : c = 0 := by omega
    obtain rfl : cap = n := by omega
    simp only [Nat.sub_zero, Nat.sub_self] at hc1 hc2 ⊢
    clear hq
    go_enter Try.func15, Try.ntmps15
    go_wp2_with (go_at_call 27; refine (hr _).mono ?_; rintro e w' ⟨rfl, rfl⟩; have hrd := h.drew)
    go_region_with (first | (go_at_call 28; (with_reducible refine (hc1 _ (by assumption)).mono ?_); rintro e w1 ⟨ao1, cap1, rfl, hf, hb, hrd1⟩) | (go_at_call 28; (with_reducible refine (hc2 _ (by assumption)).mono ?_); rintro e w1 ⟨ao1, cap1, rfl, hf, hb, hrd1⟩))
    all_goals go_wp2
    all_goals go_ret2
    all_goals exact ⟨_, _, _, _, rfl, two_own (by assumption) (by assumption) (by assumption) (by assumption)⟩
  · have hc2 : ∀ W, Rd W (some ⟨b, off, none⟩) n zs → Calls Try.prog 28 #[.slice (some ⟨b, off + (n - c), none⟩) (n - (n - c)) (cap - (n - c))] W fun e w' => ∃ ao' cap', e = .returned (.slice ao' (n - (n - c)) cap') ∧ Fr w' W.heap.size ao' (n - (n - c)) cap' (zs.drop (n - c)) ∧ Below W.heap.size W w' ∧ Rd w' (some ⟨b, off, none⟩) n zs :=
      fun W hW => (copied_any _ _ _ _ _ (hW.dropAt (n - c) (by omega))).mono fun e w' ⟨a, k, e1, e2, e3⟩ => ⟨a, k, e1, e2, e3, hW.below e3 (Nat.le_refl _)⟩
    go_enter Try.func15, Try.ntmps15
    go_wp2_with (go_at_call 27; refine (hr _).mono ?_; rintro e w' ⟨rfl, rfl⟩; have hrd := h.drew)
    go_region_with (first | (go_at_call 28; (with_reducible refine (hc1 _ (by assumption)).mono ?_); rintro e w1 ⟨ao1, cap1, rfl, hf, hb, hrd1⟩) | (go_at_call 28; (with_reducible refine (hc2 _ (by assumption)).mono ?_); rintro e w1 ⟨ao1, cap1, rfl, hf, hb, hrd1⟩))
    all_goals go_wp2
    all_goals go_ret2
    all_goals exact ⟨_, _, _, _, rfl, two_own (by assumption) (by assumption) (by assumption) (by assumption)⟩
end Go.Proofs.Ytdeglhifemmknaa
