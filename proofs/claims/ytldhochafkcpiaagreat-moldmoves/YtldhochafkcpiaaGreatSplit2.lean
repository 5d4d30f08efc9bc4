
/- Contract of package shape's Split, of lists that hold nothing too. -/

import Derived.Test.YtldhochafkcpiaaGreatCopy
import Derived.Deep.RegionWith


namespace Go.Proofs.YtldhochafkcpiaaGreat

open Go.RowKit

set_option linter.unusedVariables false

def apart (ao bo : Option Addr) : Prop := ∀ a b, ao = some a → bo = some b → a.block ≠ b.block

theorem Rd.drew {w : World} {ao : Option Addr} {n : Nat} {zs : List Int} (h : Rd w ao n zs) : Rd w.drew ao n zs :=
  h.below (Below.refl _ w).drew (Nat.le_refl _)

theorem Rd.take {w : World} {ao : Option Addr} {n : Nat} {zs : List Int} (h : Rd w ao n zs) (p : Nat) (hp : p ≤ n) : Rd w ao p (zs.take p) := by
  refine ⟨by rw [List.length_take, h.len]; omega, by have := h.room; omega, fun k hk => by rw [nth_take hk]; exact h.num k (by omega), fun h0 => ?_⟩
  obtain ⟨b, off, e, hb, hc⟩ := h.cells (by omega)
  exact ⟨b, off, e, hb, fun k hk => by rw [nth_take hk]; exact hc k (by omega)⟩

theorem Rd.dropAt {w : World} {b off : Nat} {n : Nat} {zs : List Int} (h : Rd w (some ⟨b, off, none⟩) n zs) (p : Nat) (hp : p ≤ n) : Rd w (some ⟨b, off + p, none⟩) (n - p) (zs.drop p) := by
  refine ⟨by rw [List.length_drop, h.len], by have := h.room; omega, fun k hk => by rw [nth_drop]; exact h.num _ (by omega), fun h0 => ?_⟩
  obtain ⟨b', off', e, hb, hc⟩ := h.cells (by omega)
  cases e
  exact ⟨b, off + p, rfl, hb, fun k hk => by rw [nth_drop, Nat.add_assoc]; exact hc _ (by omega)⟩

theorem Rd.dropAll {w : World} {ao bo : Option Addr} {n : Nat} {zs : List Int} (h : Rd w ao n zs) (p : Nat) (hp : n ≤ p) : Rd w bo (n - p) (zs.drop p) := by
  have e : zs.drop p = [] := List.drop_eq_nil_of_le (by rw [h.len]; exact hp)
  rw [e, show n - p = 0 by omega]
  exact Rd.empty _ _

theorem two_own {w w1 w2 : World} {ao1 ao2 : Option Addr} {p q cap1 cap2 : Nat} {l1 l2 : List Int} (hf1 : Fr w1 w.drew.heap.size ao1 p cap1 l1) (hb1 : Below w.drew.heap.size w.drew w1)
    (hf2 : Fr w2 w1.heap.size ao2 q cap2 l2) (hb2 : Below w1.heap.size w1 w2) : Fr w2 w.heap.size ao1 p cap1 l1 ∧ Fr w2 w.heap.size ao2 q cap2 l2 ∧ apart ao1 ao2 ∧ Below w.heap.size w w2 := by
  have hs : w.heap.size ≤ w1.heap.size := hb1.size
  refine ⟨hf1.below hb2 (Nat.le_refl _), hf2.mono hs, ?_, (Below.refl _ w).drew.trans (hb1.trans (hb2.mono hs))⟩
  intro a b ea eb
  rcases hf1.own.2 with ⟨e, _⟩ | ⟨g, c, cur, e, h1, hg, _⟩
  · cases e; cases ea
  · rcases hf2.own.2 with ⟨e2, _⟩ | ⟨g2, c2, cur2, e2, h2, hg2, _⟩
    · cases e2; cases eb
    · cases e; cases e2; cases ea; cases eb
      have := (Array.getElem?_eq_some_iff.1 hg).1
      simp; omega

set_option maxHeartbeats 2000000 in
theorem split_some (b off : Nat) (n cap : Nat) (zs : List Int) (r : Int) (w : World) (h : Rd w (some ⟨b, off, none⟩) n zs) (hcap : n ≤ cap) (hcap2 : cap ≤ 9223372036854775807) (h1 : -9223372036854775808 ≤ r) (h2 : r ≤ 9223372036854775807) :
    Calls Tryz.prog 79 #[.slice (some ⟨b, off, none⟩) n cap, .int .i64 r] w fun e w' => ∃ ao1 cap1 ao2 cap2, e = .returned (.tuple #[.slice ao1 (n - rankF n r) cap1, .slice ao2 (n - (n - rankF n r)) cap2]) ∧
      Fr w' w.heap.size ao1 (n - rankF n r) cap1 (zs.take (n - rankF n r)) ∧ Fr w' w.heap.size ao2 (n - (n - rankF n r)) cap2 (zs.drop (n - rankF n r)) ∧ apart ao1 ao2 ∧ Below w.heap.size w w' := by
  have hroom := h.room
  have hrk := rankF_le n r
  have hr := fun w => cellRank_any n r w hroom h1 h2
  generalize rankF n r = c at *
  have hc1 : ∀ W, Rd W (some ⟨b, off, none⟩) n zs → Calls Tryz.prog 102 #[.slice (some ⟨b, off, none⟩) (n - c) cap] W fun e w' => ∃ ao' cap', e = .returned (.slice ao' (n - c) cap') ∧ Fr w' W.heap.size ao' (n - c) cap' (zs.take (n - c)) ∧ Below W.heap.size W w' ∧ Rd w' (some ⟨b, off, none⟩) n zs :=
    fun W hW => (copied_any _ _ _ _ _ (hW.take (n - c) (by omega))).mono fun e w' ⟨a, k, e1, e2, e3⟩ => ⟨a, k, e1, e2, e3, hW.below e3 (Nat.le_refl _)⟩
  by_cases hq : cap = n - c
  · have hc2 : ∀ W, Rd W (some ⟨b, off, none⟩) n zs → Calls Tryz.prog 102 #[.slice (some ⟨b, off, none⟩) (n - (n - c)) (cap - (n - c))] W fun e w' => ∃ ao' cap', e = .returned (.slice ao' (n - (n - c)) cap') ∧ Fr w' W.heap.size ao' (n - (n - c)) cap' (zs.drop (n - c)) ∧ Below W.heap.size W w' ∧ Rd w' (some ⟨b, off, none⟩) n zs :=
      fun W hW => (copied_any _ _ _ _ _ (hW.dropAll (n - c) (by omega))).mono fun e w' ⟨a, k, e1, e2, e3⟩ => ⟨a, k, e1, e2, e3, hW.below e3 (Nat.le_refl _)⟩
    obtain rfl : c = 0 := by omega
    obtain rfl : cap = n := by omega
    simp only [Nat.sub_zero, Nat.sub_self] at hc1 hc2 ⊢
    clear hq
    go_enter Tryz.func79, Tryz.ntmps79
    go_wp2_with (go_at_call 101; refine (hr _).mono ?_; rintro e w' ⟨rfl, rfl⟩; have hrd := h.drew)
    go_region_with (first | (go_at_call 102; (with_reducible refine (hc1 _ (by assumption)).mono ?_); rintro e w1 ⟨ao1, cap1, rfl, hf, hb, hrd1⟩) | (go_at_call 102; (with_reducible refine (hc2 _ (by assumption)).mono ?_); rintro e w1 ⟨ao1, cap1, rfl, hf, hb, hrd1⟩))
    all_goals go_wp2
    all_goals go_ret2
    all_goals exact ⟨_, _, _, _, rfl, two_own (by assumption) (by assumption) (by assumption) (by assumption)⟩
  · have hc2 : ∀ W, Rd W (some ⟨b, off, none⟩) n zs → Calls Tryz.prog 102 #[.slice (some ⟨b, off + (n - c), none⟩) (n - (n - c)) (cap - (n - c))] W fun e w' => ∃ ao' cap', e = .returned (.slice ao' (n - (n - c)) cap') ∧ Fr w' W.heap.size ao' (n - (n - c)) cap' (zs.drop (n - c)) ∧ Below W.heap.size W w' ∧ Rd w' (some ⟨b, off, none⟩) n zs :=
      fun W hW => (copied_any _ _ _ _ _ (hW.dropAt (n - c) (by omega))).mono fun e w' ⟨a, k, e1, e2, e3⟩ => ⟨a, k, e1, e2, e3, hW.below e3 (Nat.le_refl _)⟩
    go_enter Tryz.func79, Tryz.ntmps79
    go_wp2_with (go_at_call 101; refine (hr _).mono ?_; rintro e w' ⟨rfl, rfl⟩; have hrd := h.drew)
    go_region_with (first | (go_at_call 102; (with_reducible refine (hc1 _ (by assumption)).mono ?_); rintro e w1 ⟨ao1, cap1, rfl, hf, hb, hrd1⟩) | (go_at_call 102; (with_reducible refine (hc2 _ (by assumption)).mono ?_); rintro e w1 ⟨ao1, cap1, rfl, hf, hb, hrd1⟩))
    all_goals go_wp2
    all_goals go_ret2
    all_goals exact ⟨_, _, _, _, rfl, two_own (by assumption) (by assumption) (by assumption) (by assumption)⟩
end Go.Proofs.YtldhochafkcpiaaGreat


namespace Go.Proofs.YtldhochafkcpiaaGreat

open Go.RowKit

set_option linter.unusedVariables false

/-- What every slice keeps: nil has no room; as long as its room at most. -/
structure Sl (ao : Option Addr) (n cap : Nat) : Prop where
  nil : ao = none → n = 0 ∧ cap = 0
  le : n ≤ cap
  max : cap ≤ 9223372036854775807

theorem Fr.sl {w : World} {B : Nat} {ao : Option Addr} {n cap : Nat} {zs : List Int} (h : Fr w B ao n cap zs) : Sl ao n cap := by
  rcases h.own.2 with ⟨e, h0⟩ | ⟨g, c, cur, e, hb, hg, hn, hm, _⟩
  · cases e; exact ⟨fun _ => ⟨rfl, rfl⟩, by omega, by omega⟩
  · cases e; exact ⟨fun e => (by cases e), hn, by unfold maxLen at hm; omega⟩

set_option maxHeartbeats 2000000 in
theorem split_nil (r : Int) (w : World) (h1 : -9223372036854775808 ≤ r) (h2 : r ≤ 9223372036854775807) :
    Calls Tryz.prog 79 #[.slice none 0 0, .int .i64 r] w fun e w' => ∃ ao1 cap1 ao2 cap2, e = .returned (.tuple #[.slice ao1 0 cap1, .slice ao2 0 cap2]) ∧
      Fr w' w.heap.size ao1 0 cap1 [] ∧ Fr w' w.heap.size ao2 0 cap2 [] ∧ apart ao1 ao2 ∧ Below w.heap.size w w' := by
  have hr : ∀ w, Calls Tryz.prog 101 #[.int .i64 0, .int .i64 r] w fun e w' => e = .returned (.int .i64 0) ∧ w' = w := fun w => by
    have h := cellRank_any 0 r w (by omega) h1 h2
    rw [show rankF 0 r = 0 by have := rankF_le 0 r; omega] at h
    exact h
  have hc1 := fun W => copied_any none 0 0 [] W (Rd.nil W)
  go_enter Tryz.func79, Tryz.ntmps79
  go_wp2_with (go_at_call 101; (with_reducible refine (hr _).mono ?_); rintro e w' ⟨rfl, rfl⟩)
  go_region_with (go_at_call 102; (with_reducible refine (hc1 _).mono ?_); rintro e w1 ⟨ao1, cap1, rfl, hf, hb⟩)
  all_goals go_wp2
  all_goals go_ret2
  all_goals exact ⟨_, _, _, _, rfl, two_own (by assumption) (by assumption) (by assumption) (by assumption)⟩

set_option maxHeartbeats 2000000 in
theorem split_zero (a : Addr) (cap : Nat) (r : Int) (w : World) (hm : cap ≤ 9223372036854775807) (h1 : -9223372036854775808 ≤ r) (h2 : r ≤ 9223372036854775807) :
    Calls Tryz.prog 79 #[.slice (some a) 0 cap, .int .i64 r] w fun e w' => ∃ ao1 cap1 ao2 cap2, e = .returned (.tuple #[.slice ao1 0 cap1, .slice ao2 0 cap2]) ∧
      Fr w' w.heap.size ao1 0 cap1 [] ∧ Fr w' w.heap.size ao2 0 cap2 [] ∧ apart ao1 ao2 ∧ Below w.heap.size w w' := by
  have hr : ∀ w, Calls Tryz.prog 101 #[.int .i64 0, .int .i64 r] w fun e w' => e = .returned (.int .i64 0) ∧ w' = w := fun w => by
    have h := cellRank_any 0 r w (by omega) h1 h2
    rw [show rankF 0 r = 0 by have := rankF_le 0 r; omega] at h
    exact h
  have hc1 := fun W a c => copied_any (some a) 0 c [] W (Rd.empty W _)
  by_cases h0 : cap = 0
  · subst h0
    go_enter Tryz.func79, Tryz.ntmps79
    go_wp2_with (go_at_call 101; (with_reducible refine (hr _).mono ?_); rintro e w' ⟨rfl, rfl⟩)
    go_region_with (go_at_call 102; (with_reducible refine (hc1 _ _ _).mono ?_); rintro e w1 ⟨ao1, cap1, rfl, hf, hb⟩)
    all_goals go_wp2
    all_goals go_ret2
    all_goals exact ⟨_, _, _, _, rfl, two_own (by assumption) (by assumption) (by assumption) (by assumption)⟩
  · go_enter Tryz.func79, Tryz.ntmps79
    go_wp2_with (go_at_call 101; (with_reducible refine (hr _).mono ?_); rintro e w' ⟨rfl, rfl⟩)
    go_region_with (go_at_call 102; (with_reducible refine (hc1 _ _ _).mono ?_); rintro e w1 ⟨ao1, cap1, rfl, hf, hb⟩)
    all_goals go_wp2
    all_goals go_ret2
    all_goals exact ⟨_, _, _, _, rfl, two_own (by assumption) (by assumption) (by assumption) (by assumption)⟩

theorem Rd.ways {w : World} {ao : Option Addr} {n cap : Nat} {zs : List Int} (h : Rd w ao n zs) (hs : Sl ao n cap) : (ao = none ∧ n = 0 ∧ cap = 0 ∧ zs = []) ∨ (∃ a, ao = some a ∧ n = 0 ∧ zs = []) ∨ ∃ b off, ao = some ⟨b, off, none⟩ ∧ 0 < n := by
  by_cases h0 : n = 0
  · have hz : zs = [] := List.eq_nil_of_length_eq_zero (by rw [h.len, h0])
    cases ao with
    | none => exact .inl ⟨rfl, h0, (hs.nil rfl).2, hz⟩
    | some a => exact .inr (.inl ⟨a, rfl, h0, hz⟩)
  · obtain ⟨b, off, e, _⟩ := h.cells (by omega)
    exact .inr (.inr ⟨b, off, e, by omega⟩)

/-- Split: frame and cell, each in memory of its own. -/
theorem split_any (ao : Option Addr) (n cap : Nat) (zs : List Int) (r : Int) (w : World) (h : Rd w ao n zs) (hs : Sl ao n cap) (h1 : -9223372036854775808 ≤ r) (h2 : r ≤ 9223372036854775807) :
    Calls Tryz.prog 79 #[.slice ao n cap, .int .i64 r] w fun e w' => ∃ ao1 cap1 ao2 cap2, e = .returned (.tuple #[.slice ao1 (n - rankF n r) cap1, .slice ao2 (rankF n r) cap2]) ∧
      Fr w' w.heap.size ao1 (n - rankF n r) cap1 (zs.take (n - rankF n r)) ∧ Fr w' w.heap.size ao2 (rankF n r) cap2 (zs.drop (n - rankF n r)) ∧ apart ao1 ao2 ∧ Below w.heap.size w w' := by
  have hrk := rankF_le n r
  rcases h.ways hs with ⟨rfl, rfl, rfl, rfl⟩ | ⟨a, rfl, rfl, rfl⟩ | ⟨b, off, rfl, h0⟩
  · rw [show rankF 0 r = 0 by omega]; simpa using split_nil r w h1 h2
  · rw [show rankF 0 r = 0 by omega]; simpa using split_zero a cap r w hs.max h1 h2
  · have := split_some b off n cap zs r w h hs.le hs.max h1 h2
    rwa [show n - (n - rankF n r) = rankF n r by omega] at this
end Go.Proofs.YtldhochafkcpiaaGreat
