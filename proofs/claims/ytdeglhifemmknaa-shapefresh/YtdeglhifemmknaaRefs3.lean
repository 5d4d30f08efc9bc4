
/- Contract of the document's own Split. -/

import Derived.Test.YtdeglhifemmknaaRefs2

namespace Go.Proofs.Ytdeglhifemmknaa

open Go.RowKit Go.Deep

set_option linter.unusedVariables false

set_option maxHeartbeats 2000000 in
theorem refSplit_some (b off : Nat) (n cap : Nat) (zs : List Int) (r : Int) (w : World) (h : Rd w (some ⟨b, off, none⟩) n zs) (hcap : n ≤ cap) (hcap2 : cap ≤ 9223372036854775807) (h1 : -9223372036854775808 ≤ r) (h2 : r ≤ 9223372036854775807) :
    Calls Try.prog 24 #[.slice (some ⟨b, off, none⟩) n cap, .int .i64 r] w fun e w' => ∃ ao1 cap1 ao2 cap2, e = .returned (.tuple #[.slice ao1 (n - rankF n r) cap1, .slice ao2 (n - (n - rankF n r)) cap2]) ∧
      Fr w' w.heap.size ao1 (n - rankF n r) cap1 (zs.take (n - rankF n r)) ∧ Fr w' w.heap.size ao2 (n - (n - rankF n r)) cap2 (zs.drop (n - rankF n r)) ∧ apart ao1 ao2 ∧ Below w.heap.size w w' := by
  have hroom := h.room
  have hrk := rankF_le n r
  have hr := fun w => refRank_any n r w hroom h1 h2
  generalize rankF n r = c at *
  by_cases hq : cap = n - c
  · obtain rfl : c = 0 := by omega
    obtain rfl : cap = n := by omega
    simp only [Nat.sub_zero, Nat.sub_self] at *
    go_enter Try.func24, Try.ntmps24
    go_wp2_with (go_at_call 36; refine (hr _).mono ?_; rintro e w' ⟨rfl, rfl⟩; have hrd := h.drew.take cap (Nat.le_refl _); have hr0 : ∀ W : World, Rd W (some ⟨b, off, none⟩) 0 (zs.drop cap) := (fun W => by have := h.dropAll (bo := some ⟨b, off, none⟩) cap (Nat.le_refl _); rw [Nat.sub_self] at this; exact ⟨this.len, this.room, this.num, fun h0 => by omega⟩))
    go_region_law (first
      | (refine step_copy rfl (.const (.slice none 0 0)) (.tmp 16) rfl (some ⟨b, off, none⟩) cap cap (zs.take cap) (by simp [Act.eval]) (by simp [Act.eval, Act.put]) hrd ?_; intro ao1 cap1 w1 hf1 hb1)
      | (refine step_copy rfl (.const (.slice none 0 0)) (.tmp 20) rfl (some ⟨b, off, none⟩) 0 0 (zs.drop cap) (by simp [Act.eval]) (by simp [Act.eval]) (hr0 _) ?_; intro ao2 cap2 w2 hf2 hb2))
    all_goals go_wp2
    all_goals go_ret2
    all_goals exact ⟨_, _, _, _, rfl, two_own (by assumption) (by assumption) (by assumption) (by assumption)⟩
  · have hle1 : (n : Int) - (c : Int) ≤ (cap : Int) := by omega
    have hle2 : (n : Int) - (c : Int) ≤ (n : Int) := by omega
    go_enter Try.func24, Try.ntmps24
    go_wp2_with (go_at_call 36; refine (hr _).mono ?_; rintro e w' ⟨rfl, rfl⟩; have hrd := h.drew.take (n - c) (by omega); have hrk2 := fun W (hW : Rd W (some ⟨b, off, none⟩) n zs) => hW.dropAt (n - c) (by omega); have hrd0 := h.drew)
    go_region_law (first
      | (refine step_copy rfl (.const (.slice none 0 0)) (.tmp 16) rfl (some ⟨b, off, none⟩) (n - c) cap (zs.take (n - c)) (by simp [Act.eval]) (by simp [Act.eval, Act.put]) hrd ?_; intro ao1 cap1 w1 hf1 hb1; have hrd1 := hrk2 _ (hrd0.below hb1 (Nat.le_refl _)))
      | (refine step_copy rfl (.const (.slice none 0 0)) (.tmp 20) rfl (some ⟨b, off + (n - c), none⟩) (n - (n - c)) (cap - (n - c)) (zs.drop (n - c)) (by simp [Act.eval]) (by simp [Act.eval]) hrd1 ?_; intro ao2 cap2 w2 hf2 hb2))
    all_goals go_wp2
    all_goals go_ret2
    all_goals exact ⟨_, _, _, _, rfl, two_own (by assumption) (by assumption) (by assumption) (by assumption)⟩

set_option maxHeartbeats 2000000 in
theorem refSplit_nil (r : Int) (w : World) (h1 : -9223372036854775808 ≤ r) (h2 : r ≤ 9223372036854775807) :
    Calls Try.prog 24 #[.slice none 0 0, .int .i64 r] w fun e w' => ∃ ao1 cap1 ao2 cap2, e = .returned (.tuple #[.slice ao1 0 cap1, .slice ao2 0 cap2]) ∧
      Fr w' w.heap.size ao1 0 cap1 [] ∧ Fr w' w.heap.size ao2 0 cap2 [] ∧ apart ao1 ao2 ∧ Below w.heap.size w w' := by
  have hr : ∀ w, Calls Try.prog 36 #[.int .i64 0, .int .i64 r] w fun e w' => e = .returned (.int .i64 0) ∧ w' = w := fun w => by
    have h := refRank_any 0 r w (by omega) h1 h2
    rw [show rankF 0 r = 0 by have := rankF_le 0 r; omega] at h
    exact h
  have hr0 : ∀ W : World, Rd W none 0 [] := Rd.nil
  go_enter Try.func24, Try.ntmps24
  go_wp2_with (go_at_call 36; (with_reducible refine (hr _).mono ?_); rintro e w' ⟨rfl, rfl⟩)
  go_region_law (first
    | (refine step_copy rfl (.const (.slice none 0 0)) (.tmp 16) rfl none 0 0 [] (by simp [Act.eval]) (by simp [Act.eval, Act.put]) (hr0 _) ?_; intro ao1 cap1 w1 hf1 hb1)
    | (refine step_copy rfl (.const (.slice none 0 0)) (.tmp 20) rfl none 0 0 [] (by simp [Act.eval]) (by simp [Act.eval]) (hr0 _) ?_; intro ao2 cap2 w2 hf2 hb2))
  all_goals go_wp2
  all_goals go_ret2
  all_goals exact ⟨_, _, _, _, rfl, two_own (by assumption) (by assumption) (by assumption) (by assumption)⟩

set_option maxHeartbeats 2000000 in
theorem refSplit_zero (a : Addr) (cap : Nat) (r : Int) (w : World) (hm : cap ≤ 9223372036854775807) (h1 : -9223372036854775808 ≤ r) (h2 : r ≤ 9223372036854775807) :
    Calls Try.prog 24 #[.slice (some a) 0 cap, .int .i64 r] w fun e w' => ∃ ao1 cap1 ao2 cap2, e = .returned (.tuple #[.slice ao1 0 cap1, .slice ao2 0 cap2]) ∧
      Fr w' w.heap.size ao1 0 cap1 [] ∧ Fr w' w.heap.size ao2 0 cap2 [] ∧ apart ao1 ao2 ∧ Below w.heap.size w w' := by
  have hr : ∀ w, Calls Try.prog 36 #[.int .i64 0, .int .i64 r] w fun e w' => e = .returned (.int .i64 0) ∧ w' = w := fun w => by
    have h := refRank_any 0 r w (by omega) h1 h2
    rw [show rankF 0 r = 0 by have := rankF_le 0 r; omega] at h
    exact h
  have hr0 : ∀ W : World, Rd W (some a) 0 [] := fun W => Rd.empty W _
  by_cases h0 : cap = 0
  · subst h0
    go_enter Try.func24, Try.ntmps24
    go_wp2_with (go_at_call 36; (with_reducible refine (hr _).mono ?_); rintro e w' ⟨rfl, rfl⟩)
    go_region_law (first
      | (refine step_copy rfl (.const (.slice none 0 0)) (.tmp 16) rfl (some a) 0 0 [] (by simp [Act.eval]) (by simp [Act.eval, Act.put]) (hr0 _) ?_; intro ao1 cap1 w1 hf1 hb1)
      | (refine step_copy rfl (.const (.slice none 0 0)) (.tmp 20) rfl (some a) 0 0 [] (by simp [Act.eval]) (by simp [Act.eval]) (hr0 _) ?_; intro ao2 cap2 w2 hf2 hb2))
    all_goals go_wp2
    all_goals go_ret2
    all_goals exact ⟨_, _, _, _, rfl, two_own (by assumption) (by assumption) (by assumption) (by assumption)⟩
  · go_enter Try.func24, Try.ntmps24
    go_wp2_with (go_at_call 36; (with_reducible refine (hr _).mono ?_); rintro e w' ⟨rfl, rfl⟩)
    go_region_law (first
      | (refine step_copy rfl (.const (.slice none 0 0)) (.tmp 16) rfl (some a) 0 cap [] (by simp [Act.eval]) (by simp [Act.eval, Act.put]) (hr0 _) ?_; intro ao1 cap1 w1 hf1 hb1)
      | (refine step_copy rfl (.const (.slice none 0 0)) (.tmp 20) rfl (some a) 0 cap [] (by simp [Act.eval]) (by simp [Act.eval]) (hr0 _) ?_; intro ao2 cap2 w2 hf2 hb2))
    all_goals go_wp2
    all_goals go_ret2
    all_goals exact ⟨_, _, _, _, rfl, two_own (by assumption) (by assumption) (by assumption) (by assumption)⟩

theorem refSplit_any (ao : Option Addr) (n cap : Nat) (zs : List Int) (r : Int) (w : World) (h : Rd w ao n zs) (hs : Sl ao n cap) (h1 : -9223372036854775808 ≤ r) (h2 : r ≤ 9223372036854775807) :
    Calls Try.prog 24 #[.slice ao n cap, .int .i64 r] w fun e w' => ∃ ao1 cap1 ao2 cap2, e = .returned (.tuple #[.slice ao1 (n - rankF n r) cap1, .slice ao2 (rankF n r) cap2]) ∧
      Fr w' w.heap.size ao1 (n - rankF n r) cap1 (zs.take (n - rankF n r)) ∧ Fr w' w.heap.size ao2 (rankF n r) cap2 (zs.drop (n - rankF n r)) ∧ apart ao1 ao2 ∧ Below w.heap.size w w' := by
  have hrk := rankF_le n r
  rcases h.ways hs with ⟨rfl, rfl, rfl, rfl⟩ | ⟨a, rfl, rfl, rfl⟩ | ⟨b, off, rfl, h0⟩
  · rw [show rankF 0 r = 0 by omega]; simpa using refSplit_nil r w h1 h2
  · rw [show rankF 0 r = 0 by omega]; simpa using refSplit_zero a cap r w hs.max h1 h2
  · have := refSplit_some b off n cap zs r w h hs.le hs.max h1 h2
    rwa [show n - (n - rankF n r) = rankF n r by omega] at this
end Go.Proofs.Ytdeglhifemmknaa
