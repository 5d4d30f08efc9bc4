
/- Contract of package shape's Split, of lists that hold nothing too. -/

import Derived.Test.YtdeglhifemmknaaSplit

namespace Go.Proofs.Ytdeglhifemmknaa

open Go.RowKit

set_option linter.unusedVariables false

/-- What every slice keeps: nil has no room; as long as its room at most. -/
structure Sl (ao : Option Addr) (n cap : Nat) : Prop where
  nil : ao = none → n = 0 ∧ cap = 0
  le : n ≤ cap
  max : cap ≤ 9223372036854775807

theorem Fr.sl {w : World} {B : Nat} {ao : Option Addr} {n cap : Nat} {zs : List Int} (h : Fr w B ao n cap zs) : Sl ao n cap := by
  rcases h.own.2 with ⟨e, h0⟩ | ⟨g, c, cur, e, hb, hg, hn, hm, _⟩
  · cases e; exact ⟨fun _ => ⟨rfl, rfl⟩, by omega, by omega⟩
  · cases e; exact ⟨fun e => (by cases e), hn, by unfold maxLen at hm; omega⟩

set_option maxHeartbeats 2000000 in
theorem split_nil (r : Int) (w : World) (h1 : -9223372036854775808 ≤ r) (h2 : r ≤ 9223372036854775807) :
    Calls Try.prog 15 #[.slice none 0 0, .int .i64 r] w fun e w' => ∃ ao1 cap1 ao2 cap2, e = .returned (.tuple #[.slice ao1 0 cap1, .slice ao2 0 cap2]) ∧
      Fr w' w.heap.size ao1 0 cap1 [] ∧ Fr w' w.heap.size ao2 0 cap2 [] ∧ apart ao1 ao2 ∧ Below w.heap.size w w' := by
  have hr : ∀ w, Calls Try.prog 27 #[.int .i64 0, .int .i64 r] w fun e w' => e = .returned (.int .i64 0) ∧ w' = w := fun w => by
    have h := cellRank_any 0 r w (by omega) h1 h2
    rw [show rankF 0 r = 0 by have := rankF_le 0 r; omega] at h
    exact h
  have hc1 := fun W => copied_any none 0 0 [] W (Rd.nil W)
  go_enter Try.func15, Try.ntmps15
  go_wp2_with (go_at_call 27; (with_reducible refine (hr _).mono ?_); rintro e w' ⟨rfl, rfl⟩)
  go_region_with (go_at_call 28; (with_reducible refine (hc1 _).mono ?_); rintro e w1 ⟨ao1, cap1, rfl, hf, hb⟩)
  all_goals go_wp2
  all_goals go_ret2
  all_goals exact ⟨_, _, _, _, rfl, two_own (by assumption) (by assumption) (by assumption) (by assumption)⟩

set_option maxHeartbeats 2000000 in
theorem split_zero (a : Addr) (cap : Nat) (r : Int) (w : World) (hm : cap ≤ 9223372036854775807) (h1 : -9223372036854775808 ≤ r) (h2 : r ≤ 9223372036854775807) :
    Calls Try.prog 15 #[.slice (some a) 0 cap, .int .i64 r] w fun e w' => ∃ ao1 cap1 ao2 cap2, e = .returned (.tuple #[.slice ao1 0 cap1, .slice ao2 0 cap2]) ∧
      Fr w' w.heap.size ao1 0 cap1 [] ∧ Fr w' w.heap.size ao2 0 cap2 [] ∧ apart ao1 ao2 ∧ Below w.heap.size w w' := by
  have hr : ∀ w, Calls Try.prog 27 #[.int .i64 0, .int .i64 r] w fun e w' => e = .returned (.int .i64 0) ∧ w' = w := fun w => by
    have h := cellRank_any 0 r w (by omega) h1 h2
    rw [show rankF 0 r = 0 by have := rankF_le 0 r; omega] at h
    exact h
  have hc1 := fun W a c => copied_any (some a) 0 c [] W (Rd.empty W _)
  by_cases h0 : cap = 0
  · subst h0
    go_enter Try.func15, Try.ntmps15
    go_wp2_with (go_at_call 27; (with_reducible refine (hr _).mono ?_); rintro e w' ⟨rfl, rfl⟩)
    go_region_with (go_at_call 28; (with_reducible refine (hc1 _ _ _).mono ?_); rintro e w1 ⟨ao1, cap1, rfl, hf, hb⟩)
    all_goals go_wp2
    all_goals go_ret2
    all_goals exact ⟨_, _, _, _, rfl, two_own (by assumption) (by assumption) (by assumption) (by assumption)⟩
  · go_enter Try.func15, Try.ntmps15
    go_wp2_with (go_at_call 27; (with_reducible refine (hr _).mono ?_); rintro e w' ⟨rfl, rfl⟩)
    go_region_with (go_at_call 28; (with_reducible refine (hc1 _ _ _).mono ?_); rintro e w1 ⟨ao1, cap1, rfl, hf, hb⟩)
    all_goals go_wp2
    all_goals go_ret2
    all_goals exact ⟨_, _, _, _, rfl, two_own (by assumption) (by assumption) (by assumption) (by assumption)⟩

theorem Rd.ways {w : World} {ao : Option Addr} {n cap : Nat} {zs : List Int} (h : Rd w ao n zs) (hs : Sl ao n cap) : (ao = none ∧ n = 0 ∧ cap = 0 ∧ zs = []) ∨ (∃ a, ao = some a ∧ n = 0 ∧ zs = []) ∨ ∃ b off, ao = some ⟨b, off, none⟩ ∧ 0 < n := by
  by_cases h0 : n = 0
  · have hz : zs = [] := List.eq_nil_of_length_eq_zero (by rw [h.len, h0])
    cases ao with
    | none => exact .inl ⟨rfl, h0, (hs.nil rfl).2, hz⟩
    | some a => exact .inr (.inl ⟨a, rfl, h0, hz⟩)
  · obtain ⟨b, off, e, _⟩ := h.cells (by omega)
    exact .inr (.inr ⟨b, off, e, by omega⟩)

/-- Split: frame and cell, each in memory of its own. -/
theorem split_any (ao : Option Addr) (n cap : Nat) (zs : List Int) (r : Int) (w : World) (h : Rd w ao n zs) (hs : Sl ao n cap) (h1 : -9223372036854775808 ≤ r) (h2 : r ≤ 9223372036854775807) :
    Calls Try.prog 15 #[.slice ao n cap, .int .i64 r] w fun e w' => ∃ ao1 cap1 ao2 cap2, e = .returned (.tuple #[.slice ao1 (n - rankF n r) cap1, .slice ao2 (rankF n r) cap2]) ∧
      Fr w' w.heap.size ao1 (n - rankF n r) cap1 (zs.take (n - rankF n r)) ∧ Fr w' w.heap.size ao2 (rankF n r) cap2 (zs.drop (n - rankF n r)) ∧ apart ao1 ao2 ∧ Below w.heap.size w w' := by
  have hrk := rankF_le n r
  rcases h.ways hs with ⟨rfl, rfl, rfl, rfl⟩ | ⟨a, rfl, rfl, rfl⟩ | ⟨b, off, rfl, h0⟩
  · rw [show rankF 0 r = 0 by omega]; simpa using split_nil r w h1 h2
  · rw [show rankF 0 r = 0 by omega]; simpa using split_zero a cap r w hs.max h1 h2
  · have := split_some b off n cap zs r w h hs.le hs.max h1 h2
    rwa [show n - (n - rankF n r) = rankF n r by omega] at this
end Go.Proofs.Ytdeglhifemmknaa
