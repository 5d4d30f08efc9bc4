/- The walk of the law NumBack: for every number of 64 bits it answers true. -/
import Derived.Test.YtaajliecbchklabBegun
namespace Go.Proofs.Ytaajliecbchklab
open Go.RowKit
set_option linter.unusedVariables false

def tupN (a b : Int) : Value := .tuple #[.int .i64 a, .int .i64 b]
theorem half_twice (y : Int) : halfN (y + y) = y ∧ halfE (y + y) = 0 := by
  unfold halfN halfE
  rw [if_pos (by omega), if_pos (by omega)]
  exact ⟨by omega, rfl⟩
theorem half_even {y : Int} (h : y % 2 = 0) : halfN y = y / 2 ∧ halfE y = 0 := by
  unfold halfN halfE
  rw [if_pos h, if_pos h]
  exact ⟨rfl, rfl⟩
theorem half_odd {y : Int} (h : ¬ y % 2 = 0) : halfN y = 0 ∧ halfE y = 10 := by
  unfold halfN halfE
  rw [if_neg h, if_neg h]
  exact ⟨rfl, rfl⟩
theorem sg_neg {y : Int} (h : y < 0) : sg y = -1 := by unfold sg; rw [if_pos h]
theorem sg_pos {y : Int} (h : 0 < y) : sg y = 1 := by unfold sg; rw [if_neg (by omega), if_pos h]

set_option maxHeartbeats 2000000 in
theorem back_walk (y : Int) (hy : inr y = true) (w : World) :
    Calls Try.prog 5 #[.int .i64 y] w fun e w' => e = .returned (.bool true) ∧ Grown w w' := by
  go_enter Try.func5, Try.ntmps5
  go_wp2_with (first | (go_at_call 6; refine (begun_any _).mono ?_; rintro e w1 ⟨rfl, n, hw⟩; have HW : Hid (w1 = w.drewN n) := hw; clear hw))
  go_loop [4] (fun i => ∃ k : Nat, k ≤ 6 ∧ i = .int .i64 (k : Nat)) (fun i => (7 - intOf i).toNat)
  case atStart => exact ⟨0, by omega, rfl⟩
  case round =>
    obtain ⟨k, hk, rfl⟩ := hrel
    have hyb := inr_iff.1 hy
    by_cases hlt : k < 6
    · rcases (show k = 0 ∨ k = 1 ∨ k = 2 ∨ k = 3 ∨ k = 4 ∨ k = 5 by omega) with rfl | rfl | rfl | rfl | rfl | rfl
      · have c1 := fun w => monad13 y hy w
        cases h : inr (y + 1)
        · rw [cut_no h, ovr_no h] at c1
          clear h hk hlt
          go_wp2_with (first | (go_at_call 7; (with_reducible refine (c1 _).mono ?_); rintro e w' ⟨rfl, rfl⟩))
          go_round
          case rel => exact ⟨1, by omega, rfl⟩
          case measure => simp [intOf]
        · rw [cut_yes h, ovr_yes h] at c1
          have c2 := fun w => monad12 (y + 1) h w
          rw [show y + 1 - 1 = y by omega, cut_yes hy, ovr_yes hy] at c2
          clear h hk hlt
          go_wp2_with (first | (go_at_call 7; (with_reducible refine (c1 _).mono ?_); rintro e w' ⟨rfl, rfl⟩) | (go_at_call 7; (with_reducible refine (c2 _).mono ?_); rintro e w' ⟨rfl, rfl⟩))
          go_round
          case rel => exact ⟨1, by omega, rfl⟩
          case measure => simp [intOf]
      · have c1 := fun w => monad12 y hy w
        cases h : inr (y - 1)
        · rw [cut_no h, ovr_no h] at c1
          clear h hk hlt
          go_wp2_with (first | (go_at_call 7; (with_reducible refine (c1 _).mono ?_); rintro e w' ⟨rfl, rfl⟩))
          go_round
          case rel => exact ⟨2, by omega, rfl⟩
          case measure => simp [intOf]
        · rw [cut_yes h, ovr_yes h] at c1
          have c2 := fun w => monad13 (y - 1) h w
          rw [show y - 1 + 1 = y by omega, cut_yes hy, ovr_yes hy] at c2
          clear h hk hlt
          go_wp2_with (first | (go_at_call 7; (with_reducible refine (c1 _).mono ?_); rintro e w' ⟨rfl, rfl⟩) | (go_at_call 7; (with_reducible refine (c2 _).mono ?_); rintro e w' ⟨rfl, rfl⟩))
          go_round
          case rel => exact ⟨2, by omega, rfl⟩
          case measure => simp [intOf]
      · have c1 := fun w => monad2 y hy w
        cases h : inr (-y)
        · rw [cut_no h, ovr_no h] at c1
          clear h hk hlt
          go_wp2_with (first | (go_at_call 7; (with_reducible refine (c1 _).mono ?_); rintro e w' ⟨rfl, rfl⟩))
          go_round
          case rel => exact ⟨3, by omega, rfl⟩
          case measure => simp [intOf]
        · rw [cut_yes h, ovr_yes h] at c1
          have c2 := fun w => monad2 (-y) h w
          rw [show - -y = y by omega, cut_yes hy, ovr_yes hy] at c2
          clear h hk hlt
          go_wp2_with (first | (go_at_call 7; (with_reducible refine (c1 _).mono ?_); rintro e w' ⟨rfl, rfl⟩) | (go_at_call 7; (with_reducible refine (c2 _).mono ?_); rintro e w' ⟨rfl, rfl⟩))
          go_round
          case rel => exact ⟨3, by omega, rfl⟩
          case measure => simp [intOf]
      · have c1 := fun w => monad18 y hy w
        cases h : inr (1 - y)
        · rw [cut_no h, ovr_no h] at c1
          clear h hk hlt
          go_wp2_with (first | (go_at_call 7; (with_reducible refine (c1 _).mono ?_); rintro e w' ⟨rfl, rfl⟩))
          go_round
          case rel => exact ⟨4, by omega, rfl⟩
          case measure => simp [intOf]
        · rw [cut_yes h, ovr_yes h] at c1
          have c2 := fun w => monad18 (1 - y) h w
          rw [show 1 - (1 - y) = y by omega, cut_yes hy, ovr_yes hy] at c2
          clear h hk hlt
          go_wp2_with (first | (go_at_call 7; (with_reducible refine (c1 _).mono ?_); rintro e w' ⟨rfl, rfl⟩) | (go_at_call 7; (with_reducible refine (c2 _).mono ?_); rintro e w' ⟨rfl, rfl⟩))
          go_round
          case rel => exact ⟨4, by omega, rfl⟩
          case measure => simp [intOf]
      · have c1 := fun w => monad16 y hy w
        cases h : inr (y + y)
        · rw [cut_no h, ovr_no h] at c1
          clear h hk hlt
          go_wp2_with (first | (go_at_call 7; (with_reducible refine (c1 _).mono ?_); rintro e w' ⟨rfl, rfl⟩))
          go_round
          case rel => exact ⟨5, by omega, rfl⟩
          case measure => simp [intOf]
        · rw [cut_yes h, ovr_yes h] at c1
          have c2 := fun w => monad19 (y + y) h w
          rw [(half_twice y).1, (half_twice y).2] at c2
          clear h hk hlt
          go_wp2_with (first | (go_at_call 7; (with_reducible refine (c1 _).mono ?_); rintro e w' ⟨rfl, rfl⟩) | (go_at_call 7; (with_reducible refine (c2 _).mono ?_); rintro e w' ⟨rfl, rfl⟩))
          go_round
          case rel => exact ⟨5, by omega, rfl⟩
          case measure => simp [intOf]
      · have c1 := fun w => monad19 y hy w
        by_cases h : y % 2 = 0
        · rw [(half_even h).1, (half_even h).2] at c1
          have h2 : inr (y / 2) = true := by rw [inr_iff]; omega
          have c2 := fun w => monad16 (y / 2) h2 w
          rw [show y / 2 + y / 2 = y by omega, cut_yes hy, ovr_yes hy] at c2
          generalize y / 2 = z at c1 c2
          clear h h2 hk hlt
          go_wp2_with (first | (go_at_call 7; (with_reducible refine (c1 _).mono ?_); rintro e w' ⟨rfl, rfl⟩) | (go_at_call 7; (with_reducible refine (c2 _).mono ?_); rintro e w' ⟨rfl, rfl⟩))
          go_round
          case rel => exact ⟨6, by omega, rfl⟩
          case measure => simp [intOf]
        · rw [(half_odd h).1, (half_odd h).2] at c1
          clear h hk hlt
          go_wp2_with (first | (go_at_call 7; (with_reducible refine (c1 _).mono ?_); rintro e w' ⟨rfl, rfl⟩))
          go_round
          case rel => exact ⟨6, by omega, rfl⟩
          case measure => simp [intOf]
    · have e6 : k = 6 := by omega
      subst e6
      have c1 := fun w => monad3 y hy w
      have c2 := fun w => monad5 y hy w
      clear hk hlt
      rcases (show y ≤ -9223372036854775808 ∨ (-9223372036854775808 < y ∧ y < 0) ∨ y = 0 ∨ 0 < y by omega) with h | h | h | h
      · have e : y = -9223372036854775808 := by omega
        subst e
        have c1' : ∀ w, Calls Try.prog 7 #[.int .i64 3, .int .i64 (-9223372036854775808)] w fun e w' => e = .returned (.tuple #[.int .i64 (-1), .int .i64 0]) ∧ w' = w := c1
        have c2' : ∀ w, Calls Try.prog 7 #[.int .i64 5, .int .i64 (-9223372036854775808)] w fun e w' => e = .returned (.tuple #[.int .i64 0, .int .i64 14]) ∧ w' = w := c2
        clear c1 c2 h
        go_wp2_with (first | (go_at_call 7; (with_reducible refine (c1' _).mono ?_); rintro e w' ⟨rfl, rfl⟩) | (go_at_call 7; (with_reducible refine (c2' _).mono ?_); rintro e w' ⟨rfl, rfl⟩))
        go_ret
        exact ⟨rfl, by have := HW.out; subst this; exact (Grown.alloc (Grown.refl w) _ _ : Grown w ((w.drewN n).alloc _))⟩
      · have hi : inr (y.natAbs : Nat) = true := by rw [inr_iff]; omega
        rw [sg_neg h.2] at c1
        rw [cut_yes hi, ovr_yes hi, show (y.natAbs : Int) = -y by omega] at c2
        have d0 : decide (0 < y) = false := by simp; omega
        have d1 : decide (y < 0) = true := by simp; omega
        clear hi
        go_wp2_with (first | (go_at_call 7; (with_reducible refine (c1 _).mono ?_); rintro e w' ⟨rfl, rfl⟩) | (go_at_call 7; (with_reducible refine (c2 _).mono ?_); rintro e w' ⟨rfl, rfl⟩))
        go_ret
        exact ⟨rfl, by have := HW.out; subst this; exact (Grown.alloc (Grown.refl w) _ _ : Grown w ((w.drewN n).alloc _))⟩
      · subst h
        have c1' : ∀ w, Calls Try.prog 7 #[.int .i64 3, .int .i64 0] w fun e w' => e = .returned (.tuple #[.int .i64 0, .int .i64 0]) ∧ w' = w := c1
        have c2' : ∀ w, Calls Try.prog 7 #[.int .i64 5, .int .i64 0] w fun e w' => e = .returned (.tuple #[.int .i64 0, .int .i64 0]) ∧ w' = w := c2
        clear c1 c2
        go_wp2_with (first | (go_at_call 7; (with_reducible refine (c1' _).mono ?_); rintro e w' ⟨rfl, rfl⟩) | (go_at_call 7; (with_reducible refine (c2' _).mono ?_); rintro e w' ⟨rfl, rfl⟩))
        go_ret
        exact ⟨rfl, by have := HW.out; subst this; exact (Grown.alloc (Grown.refl w) _ _ : Grown w ((w.drewN n).alloc _))⟩
      · have hi : inr (y.natAbs : Nat) = true := by rw [inr_iff]; omega
        rw [sg_pos h] at c1
        rw [cut_yes hi, ovr_yes hi, show (y.natAbs : Int) = y by omega] at c2
        have d0 : decide (0 < y) = true := by simp; omega
        have d1 : decide (y < 0) = false := by simp; omega
        clear hi
        go_wp2_with (first | (go_at_call 7; (with_reducible refine (c1 _).mono ?_); rintro e w' ⟨rfl, rfl⟩) | (go_at_call 7; (with_reducible refine (c2 _).mono ?_); rintro e w' ⟨rfl, rfl⟩))
        go_ret
        exact ⟨rfl, by have := HW.out; subst this; exact (Grown.alloc (Grown.refl w) _ _ : Grown w ((w.drewN n).alloc _))⟩
end Go.Proofs.Ytaajliecbchklab
