
/- Package num as the other packages see it: what Monad and Dyad answer, whatever the op. -/

import Derived.Test.YtelcagfaflpolaaGreatNSmall
import Derived.Test.YtelcagfaflpolaaGreatNMath3
import Derived.Test.YtelcagfaflpolaaGreatNDivs
import Derived.Test.YtelcagfaflpolaaGreatNDiv1
import Derived.Test.YtelcagfaflpolaaGreatNDiv2
import Derived.Test.YtelcagfaflpolaaGreatNDiv3
import Derived.Test.YtelcagfaflpolaaGreatNDiv4


namespace Go.Proofs.YtelcagfaflpolaaGreat.Nm

open Go.RowKit

set_option linter.unusedVariables false

theorem repeated_any (x y : Int) (hx : inr x = true) (h2 : 2 ≤ x.natAbs) (hy0 : 0 ≤ y) (hy : y ≤ 63) (w : World) :
    Calls Tryz.prog 162 #[.int .i64 x, .int .i64 y] w fun e w' => e = .returned (.tuple #[.int .i64 (cut (x ^ y.toNat)), .int .i64 (ovr (x ^ y.toNat))]) ∧ w' = w := by
  go_enter Tryz.func162, Tryz.ntmps162
  go_wp2
  go_loop [6, 10] (fun p i => ∃ k : Nat, k ≤ y.toNat ∧ i = .int .i64 (k : Nat) ∧ p = .int .i64 (x ^ k) ∧ inr (x ^ k) = true) (fun _ i => (64 - intOf i).toNat)
  case atStart => exact ⟨0, by omega, rfl, by rw [Int.pow_zero], by rw [Int.pow_zero]; rfl⟩
  case round =>
    obtain ⟨k, hk, rfl, rfl, hp⟩ := hrel
    by_cases hlt : (k : Int) < y
    · have hm : Hid (x ^ (k + 1) = x ^ k * x) := Int.pow_succ x k
      have hmul := fun w => mul64 (x ^ k) x hp hx w
      cases hi : inr (x ^ k * x)
      · have ho : Hid (inr (x ^ y.toNat) = false) := pow_over h2 (k := k + 1) (by rw [hm.out]; exact hi) (by omega)
        rw [hi, cut_no hi] at hmul
        clear hi
        go_wp2_with (go_at_call 107; refine (hmul _).mono ?_; rintro e w' ⟨rfl, rfl⟩)
        go_ret2
        exact ⟨ret_two (cut_no ho.out).symm (ovr_no ho.out).symm, rfl⟩
      · rw [hi, cut_yes hi] at hmul
        have hi' : Hid (inr (x ^ (k + 1)) = true) := by show _ = _; rw [hm.out]; exact hi
        clear hi
        go_wp2_with (go_at_call 107; refine (hmul _).mono ?_; rintro e w' ⟨rfl, rfl⟩)
        go_round
        case rel => exact ⟨k + 1, by omega, by go_num, by rw [hm.out], hi'.out⟩
        case measure => simp [intOf]; omega
    · have e : k = y.toNat := by omega
      subst e
      go_wp2
      go_ret2
      exact ⟨ret_two (cut_yes hp).symm (ovr_yes hp).symm, rfl⟩

theorem power_any (x y : Int) (hx : inr x = true) (hy : inr y = true) (w : World) :
    Calls Tryz.prog 117 #[.int .i64 x, .int .i64 y] w fun e w' => e = .returned (.tuple #[.int .i64 (powN x y), .int .i64 (powE x y)]) ∧ w' = w := by
  have hx' := hx
  rw [inr_iff] at hx hy
  by_cases c1 : x = 1
  · subst c1
    rw [powN_one, powE_one]
    go_enter Tryz.func117, Tryz.ntmps117
    go_wp2
    go_ret2
    exact ⟨rfl, rfl⟩
  by_cases c2 : x = -1
  · subst c2
    rw [powN_minus, powE_minus]
    have bt := tr_bd (y % 2 != 0)
    go_enter Tryz.func117, Tryz.ntmps117
    go_wp2_with (first | (go_at_call 160; refine (odd_any _ _).mono ?_; rintro e w' ⟨rfl, rfl⟩) | (go_at_call 112; refine (truth_any _ _).mono ?_; rintro e w' ⟨rfl, rfl⟩))
    go_ret2
    exact ⟨rfl, rfl⟩
  have b1 : (x == 1) = false := by simp [c1]
  have b2 : (x == -1) = false := by simp [c2]
  by_cases c3 : y < 0
  · have e : powN x y = 0 := by unfold powN; rw [if_neg (by omega), if_neg c1, if_neg c2]
    have e2 : powE x y = 10 := by unfold powE; rw [if_neg (by omega), if_neg (by omega)]
    rw [e, e2]
    go_enter Tryz.func117, Tryz.ntmps117
    go_wp2
    go_ret2
    exact ⟨rfl, rfl⟩
  by_cases c4 : x = 0
  · subst c4
    rw [powN_zero y (by omega), powE_zero y (by omega)]
    go_enter Tryz.func117, Tryz.ntmps117
    go_wp2_with (go_at_call 112; refine (truth_any _ _).mono ?_; rintro e w' ⟨rfl, rfl⟩)
    go_ret2
    exact ⟨rfl, rfl⟩
  have b4 : (x == 0) = false := by simp [c4]
  have e : powN x y = cut (x ^ y.toNat) := by unfold powN; rw [if_pos (by omega)]
  have e2 : powE x y = ovr (x ^ y.toNat) := by unfold powE; rw [if_pos (by omega)]
  rw [e, e2]
  clear e e2
  by_cases c5 : 63 < y
  · have hg := pow_great (x := x) (n := y.toNat) (by omega) (by omega)
    rw [cut_no hg, ovr_no hg]
    clear hg
    go_enter Tryz.func117, Tryz.ntmps117
    go_wp2
    go_ret2
    exact ⟨rfl, rfl⟩
  · have hr := fun w => repeated_any x y hx' (by omega) (by omega) (by omega) w
    go_enter Tryz.func117, Tryz.ntmps117
    go_wp2_with (go_at_call 162; refine (hr _).mono ?_; rintro e w' ⟨rfl, rfl⟩)
    go_ret2
    exact ⟨rfl, rfl⟩
end Go.Proofs.YtelcagfaflpolaaGreat.Nm



namespace Go.Proofs.YtelcagfaflpolaaGreat.Nm

open Go.RowKit

set_option linter.unusedVariables false

set_option maxRecDepth 20000 in
theorem monad1 (y : Int) (hy : inr y = true) (w : World) :
    Calls Tryz.prog 90 #[.int .i64 1, .int .i64 y] w fun e w' => e = .returned (.tuple #[.int .i64 (y), .int .i64 (0)]) ∧ w' = w := by
  go_enter Tryz.func90, Tryz.ntmps90
  go_wp2
  go_ret2
  exact ⟨rfl, rfl⟩
set_option maxRecDepth 20000 in
theorem monad2 (y : Int) (hy : inr y = true) (w : World) :
    Calls Tryz.prog 90 #[.int .i64 2, .int .i64 y] w fun e w' => e = .returned (.tuple #[.int .i64 (cut (-y)), .int .i64 (ovr (-y))]) ∧ w' = w := by
  go_enter Tryz.func90, Tryz.ntmps90
  go_wp2_with (first | (go_at_call 102; refine (neg64 _ (by assumption) _).mono ?_; rintro e w' ⟨rfl, rfl⟩) | (go_at_call 101; refine (checked_cut _ _).mono ?_; rintro e w' ⟨rfl, rfl⟩))
  go_ret2
  exact ⟨rfl, rfl⟩
set_option maxRecDepth 20000 in
theorem monad3 (y : Int) (hy : inr y = true) (w : World) :
    Calls Tryz.prog 90 #[.int .i64 3, .int .i64 y] w fun e w' => e = .returned (.tuple #[.int .i64 (sg y), .int .i64 (0)]) ∧ w' = w := by
  go_enter Tryz.func90, Tryz.ntmps90
  go_wp2_with (first | (go_at_call 103; refine (sign_any _ _).mono ?_; rintro e w' ⟨rfl, rfl⟩))
  go_ret2
  exact ⟨rfl, rfl⟩
set_option maxRecDepth 20000 in
theorem monad4 (y : Int) (hy : inr y = true) (w : World) :
    Calls Tryz.prog 90 #[.int .i64 4, .int .i64 y] w fun e w' => e = .returned (.tuple #[.int .i64 (0), .int .i64 (16)]) ∧ w' = w := by
  go_enter Tryz.func90, Tryz.ntmps90
  go_wp2
  go_ret2
  exact ⟨rfl, rfl⟩
set_option maxRecDepth 20000 in
theorem monad5 (y : Int) (hy : inr y = true) (w : World) :
    Calls Tryz.prog 90 #[.int .i64 5, .int .i64 y] w fun e w' => e = .returned (.tuple #[.int .i64 (cut ((y.natAbs : Nat))), .int .i64 (ovr ((y.natAbs : Nat)))]) ∧ w' = w := by
  have hb := inr_iff.1 hy
  have hz : y.natAbs < 18446744073709551616 := by omega
  clear hb
  go_enter Tryz.func90, Tryz.ntmps90
  go_wp2_with (first | (go_at_call 105; refine (size_any _ (by assumption) _).mono ?_; rintro e w' ⟨rfl, rfl⟩) | (go_at_call 104; refine (unsigned_any _ (by assumption) _).mono ?_; rintro e w' ⟨rfl, rfl⟩))
  go_ret2
  exact ⟨rfl, rfl⟩
set_option maxRecDepth 20000 in
theorem monad6 (y : Int) (hy : inr y = true) (w : World) :
    Calls Tryz.prog 90 #[.int .i64 6, .int .i64 y] w fun e w' => e = .returned (.tuple #[.int .i64 (y), .int .i64 (0)]) ∧ w' = w := by
  go_enter Tryz.func90, Tryz.ntmps90
  go_wp2
  go_ret2
  exact ⟨rfl, rfl⟩
set_option maxRecDepth 20000 in
theorem monad7 (y : Int) (hy : inr y = true) (w : World) :
    Calls Tryz.prog 90 #[.int .i64 7, .int .i64 y] w fun e w' => e = .returned (.tuple #[.int .i64 (y), .int .i64 (0)]) ∧ w' = w := by
  go_enter Tryz.func90, Tryz.ntmps90
  go_wp2
  go_ret2
  exact ⟨rfl, rfl⟩
set_option maxRecDepth 20000 in
theorem monad8 (y : Int) (hy : inr y = true) (w : World) :
    Calls Tryz.prog 90 #[.int .i64 8, .int .i64 y] w fun e w' => e = .returned (.tuple #[.int .i64 (0), .int .i64 (16)]) ∧ w' = w := by
  go_enter Tryz.func90, Tryz.ntmps90
  go_wp2
  go_ret2
  exact ⟨rfl, rfl⟩
set_option maxRecDepth 20000 in
theorem monad9 (y : Int) (hy : inr y = true) (w : World) :
    Calls Tryz.prog 90 #[.int .i64 9, .int .i64 y] w fun e w' => e = .returned (.tuple #[.int .i64 (0), .int .i64 (16)]) ∧ w' = w := by
  go_enter Tryz.func90, Tryz.ntmps90
  go_wp2
  go_ret2
  exact ⟨rfl, rfl⟩
set_option maxRecDepth 20000 in
theorem monad10 (y : Int) (hy : inr y = true) (w : World) :
    Calls Tryz.prog 90 #[.int .i64 10, .int .i64 y] w fun e w' => e = .returned (.tuple #[.int .i64 (0), .int .i64 (16)]) ∧ w' = w := by
  go_enter Tryz.func90, Tryz.ntmps90
  go_wp2
  go_ret2
  exact ⟨rfl, rfl⟩
set_option maxRecDepth 20000 in
theorem monad11 (y : Int) (hy : inr y = true) (w : World) :
    Calls Tryz.prog 90 #[.int .i64 11, .int .i64 y] w fun e w' => e = .returned (.tuple #[.int .i64 (0), .int .i64 (16)]) ∧ w' = w := by
  go_enter Tryz.func90, Tryz.ntmps90
  go_wp2
  go_ret2
  exact ⟨rfl, rfl⟩
set_option maxRecDepth 20000 in
theorem monad12 (y : Int) (hy : inr y = true) (w : World) :
    Calls Tryz.prog 90 #[.int .i64 12, .int .i64 y] w fun e w' => e = .returned (.tuple #[.int .i64 (cut (y - 1)), .int .i64 (ovr (y - 1))]) ∧ w' = w := by
  go_enter Tryz.func90, Tryz.ntmps90
  go_wp2_with (first | (go_at_call 102; refine (sub64 _ _ (by first | assumption | rfl) (by first | assumption | rfl) _).mono ?_; rintro e w' ⟨rfl, rfl⟩) | (go_at_call 101; refine (checked_cut _ _).mono ?_; rintro e w' ⟨rfl, rfl⟩))
  go_ret2
  exact ⟨rfl, rfl⟩
set_option maxRecDepth 20000 in
theorem monad13 (y : Int) (hy : inr y = true) (w : World) :
    Calls Tryz.prog 90 #[.int .i64 13, .int .i64 y] w fun e w' => e = .returned (.tuple #[.int .i64 (cut (y + 1)), .int .i64 (ovr (y + 1))]) ∧ w' = w := by
  go_enter Tryz.func90, Tryz.ntmps90
  go_wp2_with (first | (go_at_call 106; refine (add64 _ _ (by first | assumption | rfl) (by first | assumption | rfl) _).mono ?_; rintro e w' ⟨rfl, rfl⟩) | (go_at_call 101; refine (checked_cut _ _).mono ?_; rintro e w' ⟨rfl, rfl⟩))
  go_ret2
  exact ⟨rfl, rfl⟩
set_option maxRecDepth 20000 in
theorem monad14 (y : Int) (hy : inr y = true) (w : World) :
    Calls Tryz.prog 90 #[.int .i64 14, .int .i64 y] w fun e w' => e = .returned (.tuple #[.int .i64 (0), .int .i64 (16)]) ∧ w' = w := by
  go_enter Tryz.func90, Tryz.ntmps90
  go_wp2
  go_ret2
  exact ⟨rfl, rfl⟩
set_option maxRecDepth 20000 in
theorem monad15 (y : Int) (hy : inr y = true) (w : World) :
    Calls Tryz.prog 90 #[.int .i64 15, .int .i64 y] w fun e w' => e = .returned (.tuple #[.int .i64 (0), .int .i64 (16)]) ∧ w' = w := by
  go_enter Tryz.func90, Tryz.ntmps90
  go_wp2
  go_ret2
  exact ⟨rfl, rfl⟩
set_option maxRecDepth 20000 in
theorem monad16 (y : Int) (hy : inr y = true) (w : World) :
    Calls Tryz.prog 90 #[.int .i64 16, .int .i64 y] w fun e w' => e = .returned (.tuple #[.int .i64 (cut (y + y)), .int .i64 (ovr (y + y))]) ∧ w' = w := by
  go_enter Tryz.func90, Tryz.ntmps90
  go_wp2_with (first | (go_at_call 106; refine (add64 _ _ (by first | assumption | rfl) (by first | assumption | rfl) _).mono ?_; rintro e w' ⟨rfl, rfl⟩) | (go_at_call 101; refine (checked_cut _ _).mono ?_; rintro e w' ⟨rfl, rfl⟩))
  go_ret2
  exact ⟨rfl, rfl⟩
set_option maxRecDepth 20000 in
theorem monad17 (y : Int) (hy : inr y = true) (w : World) :
    Calls Tryz.prog 90 #[.int .i64 17, .int .i64 y] w fun e w' => e = .returned (.tuple #[.int .i64 (cut (y * y)), .int .i64 (ovr (y * y))]) ∧ w' = w := by
  go_enter Tryz.func90, Tryz.ntmps90
  go_wp2_with (first | (go_at_call 107; refine (mul64 _ _ (by assumption) (by assumption) _).mono ?_; rintro e w' ⟨rfl, rfl⟩) | (go_at_call 101; refine (checked_cut _ _).mono ?_; rintro e w' ⟨rfl, rfl⟩))
  go_ret2
  exact ⟨rfl, rfl⟩
set_option maxRecDepth 20000 in
theorem monad18 (y : Int) (hy : inr y = true) (w : World) :
    Calls Tryz.prog 90 #[.int .i64 18, .int .i64 y] w fun e w' => e = .returned (.tuple #[.int .i64 (cut (1 - y)), .int .i64 (ovr (1 - y))]) ∧ w' = w := by
  go_enter Tryz.func90, Tryz.ntmps90
  go_wp2_with (first | (go_at_call 102; refine (sub64 _ _ (by first | assumption | rfl) (by first | assumption | rfl) _).mono ?_; rintro e w' ⟨rfl, rfl⟩) | (go_at_call 101; refine (checked_cut _ _).mono ?_; rintro e w' ⟨rfl, rfl⟩))
  go_ret2
  exact ⟨rfl, rfl⟩
set_option maxRecDepth 20000 in
theorem monad19 (y : Int) (hy : inr y = true) (w : World) :
    Calls Tryz.prog 90 #[.int .i64 19, .int .i64 y] w fun e w' => e = .returned (.tuple #[.int .i64 (halfN y), .int .i64 (halfE y)]) ∧ w' = w := by
  go_enter Tryz.func90, Tryz.ntmps90
  go_wp2_with (first | (go_at_call 108; refine (half_any _ (by assumption) _).mono ?_; rintro e w' ⟨rfl, rfl⟩))
  go_ret2
  exact ⟨rfl, rfl⟩
set_option maxRecDepth 20000 in
theorem monad20 (y : Int) (hy : inr y = true) (w : World) :
    Calls Tryz.prog 90 #[.int .i64 20, .int .i64 y] w fun e w' => e = .returned (.tuple #[.int .i64 (0), .int .i64 (16)]) ∧ w' = w := by
  go_enter Tryz.func90, Tryz.ntmps90
  go_wp2
  go_ret2
  exact ⟨rfl, rfl⟩
set_option maxRecDepth 20000 in
theorem monad21 (y : Int) (hy : inr y = true) (w : World) :
    Calls Tryz.prog 90 #[.int .i64 21, .int .i64 y] w fun e w' => e = .returned (.tuple #[.int .i64 (factN y), .int .i64 (factE y)]) ∧ w' = w := by
  go_enter Tryz.func90, Tryz.ntmps90
  go_wp2_with (first | (go_at_call 109; refine (factorial_any _ (by assumption) _).mono ?_; rintro e w' ⟨rfl, rfl⟩))
  go_ret2
  exact ⟨rfl, rfl⟩
theorem gcd_small {a b : Nat} (ha : a < 18446744073709551616) (hb : b < 18446744073709551616) : Nat.gcd a b < 18446744073709551616 := by
  rcases Nat.eq_zero_or_pos a with h | h
  · subst h; rw [Nat.gcd_zero_left]; exact hb
  · exact Nat.lt_of_le_of_lt (Nat.gcd_le_left _ h) ha
set_option maxRecDepth 20000 in
theorem dyad1 (x y : Int) (hx : inr x = true) (hy : inr y = true) (w : World) :
    Calls Tryz.prog 93 #[.int .i64 1, .int .i64 x, .int .i64 y] w fun e w' => e = .returned (.tuple #[.int .i64 (cut (x + y)), .int .i64 (ovr (x + y))]) ∧ w' = w := by
  go_enter Tryz.func93, Tryz.ntmps93
  go_wp2_with (first | (go_at_call 106; refine (add64 _ _ (by first | assumption | rfl) (by first | assumption | rfl) _).mono ?_; rintro e w' ⟨rfl, rfl⟩) | (go_at_call 101; refine (checked_cut _ _).mono ?_; rintro e w' ⟨rfl, rfl⟩))
  go_ret2
  exact ⟨rfl, rfl⟩
set_option maxRecDepth 20000 in
theorem dyad2 (x y : Int) (hx : inr x = true) (hy : inr y = true) (w : World) :
    Calls Tryz.prog 93 #[.int .i64 2, .int .i64 x, .int .i64 y] w fun e w' => e = .returned (.tuple #[.int .i64 (cut (x - y)), .int .i64 (ovr (x - y))]) ∧ w' = w := by
  go_enter Tryz.func93, Tryz.ntmps93
  go_wp2_with (first | (go_at_call 102; refine (sub64 _ _ (by first | assumption | rfl) (by first | assumption | rfl) _).mono ?_; rintro e w' ⟨rfl, rfl⟩) | (go_at_call 101; refine (checked_cut _ _).mono ?_; rintro e w' ⟨rfl, rfl⟩))
  go_ret2
  exact ⟨rfl, rfl⟩
set_option maxRecDepth 20000 in
theorem dyad3 (x y : Int) (hx : inr x = true) (hy : inr y = true) (w : World) :
    Calls Tryz.prog 93 #[.int .i64 3, .int .i64 x, .int .i64 y] w fun e w' => e = .returned (.tuple #[.int .i64 (cut (x * y)), .int .i64 (ovr (x * y))]) ∧ w' = w := by
  go_enter Tryz.func93, Tryz.ntmps93
  go_wp2_with (first | (go_at_call 107; refine (mul64 _ _ (by assumption) (by assumption) _).mono ?_; rintro e w' ⟨rfl, rfl⟩) | (go_at_call 101; refine (checked_cut _ _).mono ?_; rintro e w' ⟨rfl, rfl⟩))
  go_ret2
  exact ⟨rfl, rfl⟩
set_option maxRecDepth 20000 in
theorem dyad4 (x y : Int) (hx : inr x = true) (hy : inr y = true) (w : World) :
    Calls Tryz.prog 93 #[.int .i64 4, .int .i64 x, .int .i64 y] w fun e w' => e = .returned (.tuple #[.int .i64 (divN x y), .int .i64 (divE x y)]) ∧ w' = w := by
  go_enter Tryz.func93, Tryz.ntmps93
  go_wp2_with (first | (go_at_call 110; refine (quotient_any _ _ (by assumption) (by assumption) _).mono ?_; rintro e w' ⟨rfl, rfl⟩))
  go_ret2
  exact ⟨rfl, rfl⟩
set_option maxRecDepth 20000 in
theorem dyad5 (x y : Int) (hx : inr x = true) (hy : inr y = true) (w : World) :
    Calls Tryz.prog 93 #[.int .i64 5, .int .i64 x, .int .i64 y] w fun e w' => e = .returned (.tuple #[.int .i64 (y.fmod x), .int .i64 (0)]) ∧ w' = w := by
  go_enter Tryz.func93, Tryz.ntmps93
  go_wp2_with (first | (go_at_call 111; refine (residue_any _ _ (by assumption) (by assumption) _).mono ?_; rintro e w' ⟨rfl, rfl⟩))
  go_ret2
  exact ⟨rfl, rfl⟩
set_option maxRecDepth 20000 in
theorem dyad6 (x y : Int) (hx : inr x = true) (hy : inr y = true) (w : World) :
    Calls Tryz.prog 93 #[.int .i64 6, .int .i64 x, .int .i64 y] w fun e w' => e = .returned (.tuple #[.int .i64 (min x y), .int .i64 (0)]) ∧ w' = w := by
  go_enter Tryz.func93, Tryz.ntmps93
  go_wp2
  all_goals
    go_ret2
    exact ⟨ret_two (by omega) rfl, rfl⟩
set_option maxRecDepth 20000 in
theorem dyad7 (x y : Int) (hx : inr x = true) (hy : inr y = true) (w : World) :
    Calls Tryz.prog 93 #[.int .i64 7, .int .i64 x, .int .i64 y] w fun e w' => e = .returned (.tuple #[.int .i64 (max x y), .int .i64 (0)]) ∧ w' = w := by
  go_enter Tryz.func93, Tryz.ntmps93
  go_wp2
  all_goals
    go_ret2
    exact ⟨ret_two (by omega) rfl, rfl⟩
set_option maxRecDepth 20000 in
theorem dyad8 (x y : Int) (hx : inr x = true) (hy : inr y = true) (w : World) :
    Calls Tryz.prog 93 #[.int .i64 8, .int .i64 x, .int .i64 y] w fun e w' => e = .returned (.tuple #[.int .i64 (tr (decide (x < y))), .int .i64 (0)]) ∧ w' = w := by
  go_enter Tryz.func93, Tryz.ntmps93
  go_wp2_with (first | (go_at_call 112; refine (truth_any _ _).mono ?_; rintro e w' ⟨rfl, rfl⟩))
  go_ret2
  exact ⟨rfl, rfl⟩
set_option maxRecDepth 20000 in
theorem dyad9 (x y : Int) (hx : inr x = true) (hy : inr y = true) (w : World) :
    Calls Tryz.prog 93 #[.int .i64 9, .int .i64 x, .int .i64 y] w fun e w' => e = .returned (.tuple #[.int .i64 (tr (decide (y < x))), .int .i64 (0)]) ∧ w' = w := by
  go_enter Tryz.func93, Tryz.ntmps93
  go_wp2_with (first | (go_at_call 112; refine (truth_any _ _).mono ?_; rintro e w' ⟨rfl, rfl⟩))
  go_ret2
  exact ⟨rfl, rfl⟩
set_option maxRecDepth 20000 in
theorem dyad10 (x y : Int) (hx : inr x = true) (hy : inr y = true) (w : World) :
    Calls Tryz.prog 93 #[.int .i64 10, .int .i64 x, .int .i64 y] w fun e w' => e = .returned (.tuple #[.int .i64 (tr (x == y)), .int .i64 (0)]) ∧ w' = w := by
  go_enter Tryz.func93, Tryz.ntmps93
  go_wp2_with (first | (go_at_call 112; refine (truth_any _ _).mono ?_; rintro e w' ⟨rfl, rfl⟩))
  go_ret2
  exact ⟨rfl, rfl⟩
set_option maxRecDepth 20000 in
theorem dyad11 (x y : Int) (hx : inr x = true) (hy : inr y = true) (w : World) :
    Calls Tryz.prog 93 #[.int .i64 11, .int .i64 x, .int .i64 y] w fun e w' => e = .returned (.tuple #[.int .i64 (tr (x != y)), .int .i64 (0)]) ∧ w' = w := by
  go_enter Tryz.func93, Tryz.ntmps93
  go_wp2_with (first | (go_at_call 112; refine (truth_any _ _).mono ?_; rintro e w' ⟨rfl, rfl⟩))
  go_ret2
  exact ⟨rfl, rfl⟩
set_option maxRecDepth 20000 in
theorem dyad12 (x y : Int) (hx : inr x = true) (hy : inr y = true) (w : World) :
    Calls Tryz.prog 93 #[.int .i64 12, .int .i64 x, .int .i64 y] w fun e w' => e = .returned (.tuple #[.int .i64 (tr (decide (x ≤ y))), .int .i64 (0)]) ∧ w' = w := by
  go_enter Tryz.func93, Tryz.ntmps93
  go_wp2_with (first | (go_at_call 112; refine (truth_any _ _).mono ?_; rintro e w' ⟨rfl, rfl⟩))
  go_ret2
  exact ⟨rfl, rfl⟩
set_option maxRecDepth 20000 in
theorem dyad13 (x y : Int) (hx : inr x = true) (hy : inr y = true) (w : World) :
    Calls Tryz.prog 93 #[.int .i64 13, .int .i64 x, .int .i64 y] w fun e w' => e = .returned (.tuple #[.int .i64 (tr (decide (y ≤ x))), .int .i64 (0)]) ∧ w' = w := by
  go_enter Tryz.func93, Tryz.ntmps93
  go_wp2_with (first | (go_at_call 112; refine (truth_any _ _).mono ?_; rintro e w' ⟨rfl, rfl⟩))
  go_ret2
  exact ⟨rfl, rfl⟩
set_option maxRecDepth 20000 in
theorem dyad14 (x y : Int) (hx : inr x = true) (hy : inr y = true) (w : World) :
    Calls Tryz.prog 93 #[.int .i64 14, .int .i64 x, .int .i64 y] w fun e w' => e = .returned (.tuple #[.int .i64 (cut ((Nat.gcd x.natAbs y.natAbs : Nat))), .int .i64 (ovr ((Nat.gcd x.natAbs y.natAbs : Nat)))]) ∧ ∃ n, w' = w.drewN n := by
  have hbx := inr_iff.1 hx
  have hby := inr_iff.1 hy
  have hzx : x.natAbs < 18446744073709551616 := by omega
  have hzy : y.natAbs < 18446744073709551616 := by omega
  have hzg := gcd_small hzx hzy
  clear hbx hby
  go_enter Tryz.func93, Tryz.ntmps93
  go_wp2_with (first | (go_at_call 105; refine (size_any _ (by assumption) _).mono ?_; rintro e w' ⟨rfl, rfl⟩) | (go_at_call 113; refine (divisor_any _ _ (by assumption) (by assumption) _).mono ?_; rintro e w' ⟨rfl, n, rfl⟩) | (go_at_call 104; refine (unsigned_any _ (by assumption) _).mono ?_; rintro e w' ⟨rfl, rfl⟩))
  go_ret2
  exact ⟨rfl, _, rfl⟩
set_option maxRecDepth 20000 in
theorem dyad15 (x y : Int) (hx : inr x = true) (hy : inr y = true) (w : World) :
    Calls Tryz.prog 93 #[.int .i64 15, .int .i64 x, .int .i64 y] w fun e w' => e = .returned (.tuple #[.int .i64 (cut ((Nat.lcm x.natAbs y.natAbs : Nat))), .int .i64 (ovr ((Nat.lcm x.natAbs y.natAbs : Nat)))]) ∧ ∃ n, w' = w.drewN n := by
  go_enter Tryz.func93, Tryz.ntmps93
  go_wp2_with (first | (go_at_call 114; refine (multiple_any _ _ (by assumption) (by assumption) _).mono ?_; rintro e w' ⟨rfl, n, rfl⟩))
  go_ret2
  exact ⟨rfl, _, rfl⟩
set_option maxRecDepth 20000 in
theorem dyad16 (x y : Int) (hx : inr x = true) (hy : inr y = true) (w : World) :
    Calls Tryz.prog 93 #[.int .i64 16, .int .i64 x, .int .i64 y] w fun e w' => e = .returned (.tuple #[.int .i64 (norN x y), .int .i64 (bitE x y)]) ∧ w' = w := by
  go_enter Tryz.func93, Tryz.ntmps93
  go_wp2_with (first | (go_at_call 115; refine (nor_any _ _ _).mono ?_; rintro e w' ⟨rfl, rfl⟩))
  go_ret2
  exact ⟨rfl, rfl⟩
set_option maxRecDepth 20000 in
theorem dyad17 (x y : Int) (hx : inr x = true) (hy : inr y = true) (w : World) :
    Calls Tryz.prog 93 #[.int .i64 17, .int .i64 x, .int .i64 y] w fun e w' => e = .returned (.tuple #[.int .i64 (nandN x y), .int .i64 (bitE x y)]) ∧ w' = w := by
  go_enter Tryz.func93, Tryz.ntmps93
  go_wp2_with (first | (go_at_call 116; refine (nand_any _ _ _).mono ?_; rintro e w' ⟨rfl, rfl⟩))
  go_ret2
  exact ⟨rfl, rfl⟩
set_option maxRecDepth 20000 in
theorem dyad18 (x y : Int) (hx : inr x = true) (hy : inr y = true) (w : World) :
    Calls Tryz.prog 93 #[.int .i64 18, .int .i64 x, .int .i64 y] w fun e w' => e = .returned (.tuple #[.int .i64 (0), .int .i64 (16)]) ∧ w' = w := by
  go_enter Tryz.func93, Tryz.ntmps93
  go_wp2
  go_ret2
  exact ⟨rfl, rfl⟩
set_option maxRecDepth 20000 in
theorem dyad19 (x y : Int) (hx : inr x = true) (hy : inr y = true) (w : World) :
    Calls Tryz.prog 93 #[.int .i64 19, .int .i64 x, .int .i64 y] w fun e w' => e = .returned (.tuple #[.int .i64 (0), .int .i64 (16)]) ∧ w' = w := by
  go_enter Tryz.func93, Tryz.ntmps93
  go_wp2
  go_ret2
  exact ⟨rfl, rfl⟩
set_option maxRecDepth 20000 in
theorem dyad20 (x y : Int) (hx : inr x = true) (hy : inr y = true) (w : World) :
    Calls Tryz.prog 93 #[.int .i64 20, .int .i64 x, .int .i64 y] w fun e w' => e = .returned (.tuple #[.int .i64 (powN x y), .int .i64 (powE x y)]) ∧ w' = w := by
  go_enter Tryz.func93, Tryz.ntmps93
  go_wp2_with (first | (go_at_call 117; refine (power_any _ _ (by assumption) (by assumption) _).mono ?_; rintro e w' ⟨rfl, rfl⟩))
  go_ret2
  exact ⟨rfl, rfl⟩
end Go.Proofs.YtelcagfaflpolaaGreat.Nm





namespace Go.Proofs.YtelcagfaflpolaaGreat.Nm

open Go.RowKit

theorem bitsDiv_any (hi lo y : Nat) (h1 : 1 ≤ y) (h2 : y ≤ 33) (hh : hi < y) (hl : lo < 18446744073709551616) (w : World) :
    Calls Tryz.prog 211 #[.int .u64 (hi : Nat), .int .u64 (lo : Nat), .int .u64 (y : Nat)] w fun e w' => (∃ r : Int, e = .returned (.tuple #[.int .u64 (((hi * 18446744073709551616 + lo) / y : Nat) : Int), .int .u64 r])) ∧ ∃ n, w' = w.drewN n := by
  rcases Nat.eq_zero_or_pos hi with h0 | h0
  · subst h0
    rw [Nat.zero_mul, Nat.zero_add]
    exact bitsDiv_plain lo y h1 h2 hl w
  · rcases split33 h2 with rfl | rfl | rfl | rfl | rfl | rfl | rfl | rfl | rfl | rfl | rfl | rfl | rfl | rfl | rfl | rfl | rfl | rfl | rfl | rfl | rfl | rfl | rfl | rfl | rfl | rfl | rfl | rfl | rfl | rfl | rfl | rfl | rfl | rfl
    · omega
    · omega
    · exact bitsDiv_2 hi lo h0 hh hl w
    · exact bitsDiv_3 hi lo h0 hh hl w
    · exact bitsDiv_4 hi lo h0 hh hl w
    · exact bitsDiv_5 hi lo h0 hh hl w
    · exact bitsDiv_6 hi lo h0 hh hl w
    · exact bitsDiv_7 hi lo h0 hh hl w
    · exact bitsDiv_8 hi lo h0 hh hl w
    · exact bitsDiv_9 hi lo h0 hh hl w
    · exact bitsDiv_10 hi lo h0 hh hl w
    · exact bitsDiv_11 hi lo h0 hh hl w
    · exact bitsDiv_12 hi lo h0 hh hl w
    · exact bitsDiv_13 hi lo h0 hh hl w
    · exact bitsDiv_14 hi lo h0 hh hl w
    · exact bitsDiv_15 hi lo h0 hh hl w
    · exact bitsDiv_16 hi lo h0 hh hl w
    · exact bitsDiv_17 hi lo h0 hh hl w
    · exact bitsDiv_18 hi lo h0 hh hl w
    · exact bitsDiv_19 hi lo h0 hh hl w
    · exact bitsDiv_20 hi lo h0 hh hl w
    · exact bitsDiv_21 hi lo h0 hh hl w
    · exact bitsDiv_22 hi lo h0 hh hl w
    · exact bitsDiv_23 hi lo h0 hh hl w
    · exact bitsDiv_24 hi lo h0 hh hl w
    · exact bitsDiv_25 hi lo h0 hh hl w
    · exact bitsDiv_26 hi lo h0 hh hl w
    · exact bitsDiv_27 hi lo h0 hh hl w
    · exact bitsDiv_28 hi lo h0 hh hl w
    · exact bitsDiv_29 hi lo h0 hh hl w
    · exact bitsDiv_30 hi lo h0 hh hl w
    · exact bitsDiv_31 hi lo h0 hh hl w
    · exact bitsDiv_32 hi lo h0 hh hl w
    · exact bitsDiv_33 hi lo h0 hh hl w
end Go.Proofs.YtelcagfaflpolaaGreat.Nm


namespace Go.Proofs.YtelcagfaflpolaaGreat.Nm

open Go.RowKit

set_option linter.unusedVariables false

theorem chooseFew_any (few all : Nat) (hf : few ≤ 33) (ha : few + few ≤ all) (hb : all < 9223372036854775808) (w : World) :
    Calls Tryz.prog 163 #[.int .u64 (few : Nat), .int .u64 (all : Nat)] w fun e w' => e = .returned (.tuple #[.int .i64 (cut (binom all few : Nat)), .int .i64 (ovr (binom all few : Nat))]) ∧ ∃ n, w' = w.drewN n := by
  obtain ⟨m, HM⟩ : ∃ m, Hid (m = all - few) := ⟨_, (rfl : all - few = all - few)⟩
  have hm1 : m ≤ all := by have := HM.out; omega
  go_enter Tryz.func163, Tryz.ntmps163
  go_wp2
  go_loopw [6, 7] (fun v i wr => ∃ k : Nat, k ≤ few ∧ i = .int .u64 ((k : Int) + 1) ∧ v = .int .u64 (binom (m + k) k : Nat) ∧ binom (m + k) k ≤ 9223372036854775807 ∧ ∃ n, wr = w.drewN n) (fun _ i _ => (35 - intOf i).toNat)
  case atStart => exact ⟨0, by omega, rfl, by rw [binom_zero]; rfl, by rw [binom_zero]; omega, 0, rfl⟩
  case round =>
    obtain ⟨k, hk, rfl, rfl, hle, n, rfl⟩ := hrel
    by_cases hlt : (k : Int) + 1 ≤ few
    · have hm := HM.out
      have hP : binom (m + k) k * (all - few + (k + 1)) = binom (m + k + 1) (k + 1) * (k + 1) := by
        rw [binom_mul, hm]; congr 1
      have hup : binom (m + k + 1) (k + 1) ≤ binom all few := by
        have h := binom_up m (i := k + 1) (j := few) (by omega)
        rw [show m + few = all by omega] at h
        exact h
      have hmul := fun w => bitsMul64 (binom (m + k) k) (all - few + (k + 1)) (by omega) (by omega) w
      rw [hP, show ((all - few + (k + 1) : Nat) : Int) = (all : Int) - (few : Int) + ((k : Int) + 1) by omega] at hmul
      obtain ⟨B, hB⟩ : ∃ B, B = binom (m + k + 1) (k + 1) := ⟨_, rfl⟩
      rw [← hB] at hmul hup
      obtain ⟨H, hH⟩ : ∃ H, H = B * (k + 1) / 18446744073709551616 := ⟨_, rfl⟩
      obtain ⟨L, hL⟩ : ∃ L, L = B * (k + 1) % 18446744073709551616 := ⟨_, rfl⟩
      rw [← hH, ← hL] at hmul
      have hHL : H * 18446744073709551616 + L = B * (k + 1) := by omega
      have hLb : L < 18446744073709551616 := by omega
      have hprod : B * (k + 1) ≤ 9223372036854775807 * 9223372036854775807 := by
        rw [hB, ← hP]; exact Nat.mul_le_mul hle (by omega)
      have hHb : H < 18446744073709551616 := by omega
      have HB : Hid (B = binom (m + (k + 1)) (k + 1)) := hB
      clear hB hP hH hL hprod hm
      by_cases c1 : k + 1 ≤ H
      · have hbig : 18446744073709551616 ≤ B := by
          have h1 : (k + 1) * 18446744073709551616 ≤ B * (k + 1) := by omega
          rw [Nat.mul_comm] at h1
          exact Nat.le_of_mul_le_mul_right h1 (by omega)
        have hno : Hid (inr (binom all few : Nat) = false) := inr_no.2 (by omega)
        clear hHL
        go_wp2_with (go_at_call 80; refine (hmul _).mono ?_; rintro e w' ⟨rfl, rfl⟩)
        go_ret2
        exact ⟨ret_two (cut_no hno.out).symm (ovr_no hno.out).symm, n, rfl⟩
      · have hdiv := fun w => bitsDiv_any H L (k + 1) (by omega) (by omega) (by omega) hLb w
        rw [hHL, Nat.mul_div_cancel _ (Nat.succ_pos k), show ((k + 1 : Nat) : Int) = (k : Int) + 1 by omega] at hdiv
        have hBb : B < 18446744073709551616 := by
          have h1 : B * (k + 1) < 18446744073709551616 * (k + 1) := by omega
          exact Nat.lt_of_mul_lt_mul_right h1
        clear hHL
        by_cases c2 : 9223372036854775807 < B
        · have hno : Hid (inr (binom all few : Nat) = false) := inr_no.2 (by omega)
          go_wp2_with (first | (go_at_call 80; refine (hmul _).mono ?_; rintro e w' ⟨rfl, rfl⟩) | (go_at_call 211; refine (hdiv _).mono ?_; rintro e w' ⟨⟨r, rfl⟩, n2, rfl⟩))
          go_ret2
          exact ⟨ret_two (cut_no hno.out).symm (ovr_no hno.out).symm, n + n2, by simp⟩
        · go_wp2_with (first | (go_at_call 80; refine (hmul _).mono ?_; rintro e w' ⟨rfl, rfl⟩) | (go_at_call 211; refine (hdiv _).mono ?_; rintro e w' ⟨⟨r, rfl⟩, n2, rfl⟩))
          go_roundw
          case rel => exact ⟨k + 1, by omega, by go_num, by rw [← HB.out], by rw [← HB.out]; omega, n + n2, by simp⟩
          case measure => simp [intOf]; omega
    · have e : k = few := by omega
      subst e
      have hm := HM.out
      have hi : inr (binom all k : Nat) = true := by rw [inr_iff]; rw [show m + k = all by omega] at hle; omega
      clear hm
      go_wp2
      go_ret2
      exact ⟨ret_two (by rw [cut_yes hi, show m + k = all by have := HM.out; omega]) (ovr_yes hi).symm, n, rfl⟩

theorem chooseN_in {x y : Int} (h0 : 0 ≤ x) (h : x ≤ y) : chooseN x y = cut (binom y.toNat x.toNat) := by unfold chooseN; rw [if_neg (by omega)]
theorem chooseE_in {x y : Int} (h0 : 0 ≤ x) (h : x ≤ y) : chooseE x y = ovr (binom y.toNat x.toNat) := by unfold chooseE; rw [if_neg (by omega), if_neg (by omega)]

theorem choose_any (x y : Int) (hx : inr x = true) (hy : inr y = true) (w : World) :
    Calls Tryz.prog 118 #[.int .i64 x, .int .i64 y] w fun e w' => e = .returned (.tuple #[.int .i64 (chooseN x y), .int .i64 (chooseE x y)]) ∧ ∃ n, w' = w.drewN n := by
  rw [inr_iff] at hx hy
  by_cases c0 : y < 0
  · have e : chooseN x y = 0 := by unfold chooseN; rw [if_pos (Or.inl c0)]
    have e2 : chooseE x y = 10 := by unfold chooseE; rw [if_pos c0]
    rw [e, e2]
    go_enter Tryz.func118, Tryz.ntmps118
    go_wp2
    go_ret2
    exact ⟨rfl, 0, rfl⟩
  by_cases c1 : x < 0
  · have e : chooseN x y = 0 := by unfold chooseN; rw [if_pos (Or.inr (Or.inl c1))]
    have e2 : chooseE x y = 0 := by unfold chooseE; rw [if_neg c0, if_pos (Or.inl c1)]
    rw [e, e2]
    have b1 : decide (x < 0) = true := by simpa using c1
    go_enter Tryz.func118, Tryz.ntmps118
    go_wp2
    go_ret2
    exact ⟨rfl, 0, rfl⟩
  have b1 : decide (x < 0) = false := by simpa using c1
  by_cases c2 : y < x
  · have e : chooseN x y = 0 := by unfold chooseN; rw [if_pos (Or.inr (Or.inr c2))]
    have e2 : chooseE x y = 0 := by unfold chooseE; rw [if_neg c0, if_pos (Or.inr c2)]
    rw [e, e2]
    have b2 : decide (y < x) = true := by simpa using c2
    go_enter Tryz.func118, Tryz.ntmps118
    go_wp2
    go_ret2
    exact ⟨rfl, 0, rfl⟩
  have b2 : decide (y < x) = false := by simpa using c2
  rw [chooseN_in (by omega) (by omega), chooseE_in (by omega) (by omega)]
  obtain ⟨X, hX⟩ : ∃ X : Nat, x = X := ⟨x.toNat, by omega⟩
  obtain ⟨Y, hY⟩ : ∃ Y : Nat, y = Y := ⟨y.toNat, by omega⟩
  subst hX hY
  simp only [Int.toNat_natCast]
  have hs := binom_sym (n := Y) (k := X) (by omega)
  by_cases c3 : X ≤ Y - X
  · have emin : min (X : Int) ((Y : Int) - X) = X := by omega
    by_cases c4 : 33 < X
    · have hg := binom_great (n := Y) (k := X) c4 (by omega)
      rw [cut_no hg, ovr_no hg]
      clear hg hs
      go_enter Tryz.func118, Tryz.ntmps118
      go_wp2
      go_ret2
      exact ⟨rfl, 0, rfl⟩
    · have hc := fun w => chooseFew_any X Y (by omega) (by omega) (by omega) w
      clear hs
      go_enter Tryz.func118, Tryz.ntmps118
      go_wp2_with (go_at_call 163; refine (hc _).mono ?_; rintro e w' ⟨rfl, n2, rfl⟩)
      go_ret2
      exact ⟨rfl, n2, rfl⟩
  · have emin : min (X : Int) ((Y : Int) - X) = (Y : Int) - X := by omega
    rw [hs]
    clear hs
    by_cases c4 : 33 < Y - X
    · have hg := binom_great (n := Y) (k := Y - X) c4 (by omega)
      rw [cut_no hg, ovr_no hg]
      clear hg
      go_enter Tryz.func118, Tryz.ntmps118
      go_wp2
      go_ret2
      exact ⟨rfl, 0, rfl⟩
    · have hc := fun w => chooseFew_any (Y - X) Y (by omega) (by omega) (by omega) w
      rw [show ((Y - X : Nat) : Int) = (Y : Int) - X by omega] at hc
      go_enter Tryz.func118, Tryz.ntmps118
      go_wp2_with (go_at_call 163; refine (hc _).mono ?_; rintro e w' ⟨rfl, n2, rfl⟩)
      go_ret2
      exact ⟨rfl, n2, rfl⟩
end Go.Proofs.YtelcagfaflpolaaGreat.Nm



namespace Go.Proofs.YtelcagfaflpolaaGreat.Nm

open Go.RowKit

set_option linter.unusedVariables false

set_option maxRecDepth 20000 in
theorem dyad21 (x y : Int) (hx : inr x = true) (hy : inr y = true) (w : World) :
    Calls Tryz.prog 93 #[.int .i64 21, .int .i64 x, .int .i64 y] w fun e w' => e = .returned (.tuple #[.int .i64 (chooseN x y), .int .i64 (chooseE x y)]) ∧ ∃ n, w' = w.drewN n := by
  go_enter Tryz.func93, Tryz.ntmps93
  go_wp2_with (first | (go_at_call 118; refine (choose_any _ _ (by assumption) (by assumption) _).mono ?_; rintro e w' ⟨rfl, n, rfl⟩))
  go_ret2
  exact ⟨rfl, _, rfl⟩
end Go.Proofs.YtelcagfaflpolaaGreat.Nm


namespace Go.Proofs.YtelcagfaflpolaaGreat.Nm

open Go.RowKit

set_option linter.unusedVariables false

/-- What Monad answers, and its error. -/
def mN (op y : Int) : Int := if op = 1 then y else if op = 2 then cut (-y) else if op = 3 then sg y else if op = 4 then 0 else if op = 5 then cut ((y.natAbs : Nat)) else if op = 6 then y else if op = 7 then y else if op = 8 then 0 else if op = 9 then 0 else if op = 10 then 0 else if op = 11 then 0 else if op = 12 then cut (y - 1) else if op = 13 then cut (y + 1) else if op = 14 then 0 else if op = 15 then 0 else if op = 16 then cut (y + y) else if op = 17 then cut (y * y) else if op = 18 then cut (1 - y) else if op = 19 then halfN y else if op = 20 then 0 else if op = 21 then factN y else 0
def mE (op y : Int) : Int := if op = 1 then 0 else if op = 2 then ovr (-y) else if op = 3 then 0 else if op = 4 then 16 else if op = 5 then ovr ((y.natAbs : Nat)) else if op = 6 then 0 else if op = 7 then 0 else if op = 8 then 16 else if op = 9 then 16 else if op = 10 then 16 else if op = 11 then 16 else if op = 12 then ovr (y - 1) else if op = 13 then ovr (y + 1) else if op = 14 then 16 else if op = 15 then 16 else if op = 16 then ovr (y + y) else if op = 17 then ovr (y * y) else if op = 18 then ovr (1 - y) else if op = 19 then halfE y else if op = 20 then 16 else if op = 21 then factE y else 1
/-- What Dyad answers, and its error. -/
def dN (op x y : Int) : Int := if op = 1 then cut (x + y) else if op = 2 then cut (x - y) else if op = 3 then cut (x * y) else if op = 4 then divN x y else if op = 5 then y.fmod x else if op = 6 then min x y else if op = 7 then max x y else if op = 8 then tr (decide (x < y)) else if op = 9 then tr (decide (y < x)) else if op = 10 then tr (x == y) else if op = 11 then tr (x != y) else if op = 12 then tr (decide (x ≤ y)) else if op = 13 then tr (decide (y ≤ x)) else if op = 14 then cut ((Nat.gcd x.natAbs y.natAbs : Nat)) else if op = 15 then cut ((Nat.lcm x.natAbs y.natAbs : Nat)) else if op = 16 then norN x y else if op = 17 then nandN x y else if op = 18 then 0 else if op = 19 then 0 else if op = 20 then powN x y else if op = 21 then chooseN x y else 0
def dE (op x y : Int) : Int := if op = 1 then ovr (x + y) else if op = 2 then ovr (x - y) else if op = 3 then ovr (x * y) else if op = 4 then divE x y else if op = 5 then 0 else if op = 6 then 0 else if op = 7 then 0 else if op = 8 then 0 else if op = 9 then 0 else if op = 10 then 0 else if op = 11 then 0 else if op = 12 then 0 else if op = 13 then 0 else if op = 14 then ovr ((Nat.gcd x.natAbs y.natAbs : Nat)) else if op = 15 then ovr ((Nat.lcm x.natAbs y.natAbs : Nat)) else if op = 16 then bitE x y else if op = 17 then bitE x y else if op = 18 then 16 else if op = 19 then 16 else if op = 20 then powE x y else if op = 21 then chooseE x y else 1
set_option maxRecDepth 20000 in
theorem monadOther_lo (op y : Int) (h : op < 1) (w : World) :
    Calls Tryz.prog 90 #[.int .i64 op, .int .i64 y] w fun e w' => e = .returned (.tuple #[.int .i64 0, .int .i64 1]) ∧ w' = w := by
  have t1 : (op == 1) = false := by simp; omega
  have t2 : (op == 2) = false := by simp; omega
  have t3 : (op == 3) = false := by simp; omega
  have t4 : (op == 4) = false := by simp; omega
  have t5 : (op == 5) = false := by simp; omega
  have t6 : (op == 6) = false := by simp; omega
  have t7 : (op == 7) = false := by simp; omega
  have t8 : (op == 8) = false := by simp; omega
  have t9 : (op == 9) = false := by simp; omega
  have t10 : (op == 10) = false := by simp; omega
  have t11 : (op == 11) = false := by simp; omega
  have t12 : (op == 12) = false := by simp; omega
  have t13 : (op == 13) = false := by simp; omega
  have t14 : (op == 14) = false := by simp; omega
  have t15 : (op == 15) = false := by simp; omega
  have t16 : (op == 16) = false := by simp; omega
  have t17 : (op == 17) = false := by simp; omega
  have t18 : (op == 18) = false := by simp; omega
  have t19 : (op == 19) = false := by simp; omega
  have t20 : (op == 20) = false := by simp; omega
  have t21 : (op == 21) = false := by simp; omega
  go_enter Tryz.func90, Tryz.ntmps90
  go_wp2
  go_ret2
  exact ⟨rfl, rfl⟩
set_option maxRecDepth 20000 in
theorem monadOther_hi (op y : Int) (h : 21 < op) (w : World) :
    Calls Tryz.prog 90 #[.int .i64 op, .int .i64 y] w fun e w' => e = .returned (.tuple #[.int .i64 0, .int .i64 1]) ∧ w' = w := by
  have t1 : (op == 1) = false := by simp; omega
  have t2 : (op == 2) = false := by simp; omega
  have t3 : (op == 3) = false := by simp; omega
  have t4 : (op == 4) = false := by simp; omega
  have t5 : (op == 5) = false := by simp; omega
  have t6 : (op == 6) = false := by simp; omega
  have t7 : (op == 7) = false := by simp; omega
  have t8 : (op == 8) = false := by simp; omega
  have t9 : (op == 9) = false := by simp; omega
  have t10 : (op == 10) = false := by simp; omega
  have t11 : (op == 11) = false := by simp; omega
  have t12 : (op == 12) = false := by simp; omega
  have t13 : (op == 13) = false := by simp; omega
  have t14 : (op == 14) = false := by simp; omega
  have t15 : (op == 15) = false := by simp; omega
  have t16 : (op == 16) = false := by simp; omega
  have t17 : (op == 17) = false := by simp; omega
  have t18 : (op == 18) = false := by simp; omega
  have t19 : (op == 19) = false := by simp; omega
  have t20 : (op == 20) = false := by simp; omega
  have t21 : (op == 21) = false := by simp; omega
  go_enter Tryz.func90, Tryz.ntmps90
  go_wp2
  go_ret2
  exact ⟨rfl, rfl⟩
set_option maxRecDepth 20000 in
theorem dyadOther_lo (op x y : Int) (h : op < 1) (w : World) :
    Calls Tryz.prog 93 #[.int .i64 op, .int .i64 x, .int .i64 y] w fun e w' => e = .returned (.tuple #[.int .i64 0, .int .i64 1]) ∧ w' = w := by
  have t1 : (op == 1) = false := by simp; omega
  have t2 : (op == 2) = false := by simp; omega
  have t3 : (op == 3) = false := by simp; omega
  have t4 : (op == 4) = false := by simp; omega
  have t5 : (op == 5) = false := by simp; omega
  have t6 : (op == 6) = false := by simp; omega
  have t7 : (op == 7) = false := by simp; omega
  have t8 : (op == 8) = false := by simp; omega
  have t9 : (op == 9) = false := by simp; omega
  have t10 : (op == 10) = false := by simp; omega
  have t11 : (op == 11) = false := by simp; omega
  have t12 : (op == 12) = false := by simp; omega
  have t13 : (op == 13) = false := by simp; omega
  have t14 : (op == 14) = false := by simp; omega
  have t15 : (op == 15) = false := by simp; omega
  have t16 : (op == 16) = false := by simp; omega
  have t17 : (op == 17) = false := by simp; omega
  have t18 : (op == 18) = false := by simp; omega
  have t19 : (op == 19) = false := by simp; omega
  have t20 : (op == 20) = false := by simp; omega
  have t21 : (op == 21) = false := by simp; omega
  go_enter Tryz.func93, Tryz.ntmps93
  go_wp2
  go_ret2
  exact ⟨rfl, rfl⟩
set_option maxRecDepth 20000 in
theorem dyadOther_hi (op x y : Int) (h : 21 < op) (w : World) :
    Calls Tryz.prog 93 #[.int .i64 op, .int .i64 x, .int .i64 y] w fun e w' => e = .returned (.tuple #[.int .i64 0, .int .i64 1]) ∧ w' = w := by
  have t1 : (op == 1) = false := by simp; omega
  have t2 : (op == 2) = false := by simp; omega
  have t3 : (op == 3) = false := by simp; omega
  have t4 : (op == 4) = false := by simp; omega
  have t5 : (op == 5) = false := by simp; omega
  have t6 : (op == 6) = false := by simp; omega
  have t7 : (op == 7) = false := by simp; omega
  have t8 : (op == 8) = false := by simp; omega
  have t9 : (op == 9) = false := by simp; omega
  have t10 : (op == 10) = false := by simp; omega
  have t11 : (op == 11) = false := by simp; omega
  have t12 : (op == 12) = false := by simp; omega
  have t13 : (op == 13) = false := by simp; omega
  have t14 : (op == 14) = false := by simp; omega
  have t15 : (op == 15) = false := by simp; omega
  have t16 : (op == 16) = false := by simp; omega
  have t17 : (op == 17) = false := by simp; omega
  have t18 : (op == 18) = false := by simp; omega
  have t19 : (op == 19) = false := by simp; omega
  have t20 : (op == 20) = false := by simp; omega
  have t21 : (op == 21) = false := by simp; omega
  go_enter Tryz.func93, Tryz.ntmps93
  go_wp2
  go_ret2
  exact ⟨rfl, rfl⟩
theorem monad_any (op y : Int) (hy : inr y = true) (w : World) :
    Calls Tryz.prog 90 #[.int .i64 op, .int .i64 y] w fun e w' => e = .returned (.tuple #[.int .i64 (mN op y), .int .i64 (mE op y)]) ∧ ∃ n, w' = w.drewN n := by
  by_cases h : op < 1
  · have e1 : mN op y = 0 := by unfold mN; iterate 21 (rw [if_neg (by omega)])
    have e2 : mE op y = 1 := by unfold mE; iterate 21 (rw [if_neg (by omega)])
    rw [e1, e2]
    exact (monadOther_lo op y h w).mono fun e w' h => ⟨h.1, 0, h.2⟩
  by_cases h2 : 21 < op
  · have e1 : mN op y = 0 := by unfold mN; iterate 21 (rw [if_neg (by omega)])
    have e2 : mE op y = 1 := by unfold mE; iterate 21 (rw [if_neg (by omega)])
    rw [e1, e2]
    exact (monadOther_hi op y h2 w).mono fun e w' h => ⟨h.1, 0, h.2⟩
  rcases (show op = 1 ∨ op = 2 ∨ op = 3 ∨ op = 4 ∨ op = 5 ∨ op = 6 ∨ op = 7 ∨ op = 8 ∨ op = 9 ∨ op = 10 ∨ op = 11 ∨ op = 12 ∨ op = 13 ∨ op = 14 ∨ op = 15 ∨ op = 16 ∨ op = 17 ∨ op = 18 ∨ op = 19 ∨ op = 20 ∨ op = 21 by omega) with rfl | rfl | rfl | rfl | rfl | rfl | rfl | rfl | rfl | rfl | rfl | rfl | rfl | rfl | rfl | rfl | rfl | rfl | rfl | rfl | rfl
  · rw [show mN 1 y = y from rfl, show mE 1 y = 0 from rfl]
    exact (monad1 y hy w).mono fun e w' h => ⟨h.1, 0, h.2⟩
  · rw [show mN 2 y = cut (-y) from rfl, show mE 2 y = ovr (-y) from rfl]
    exact (monad2 y hy w).mono fun e w' h => ⟨h.1, 0, h.2⟩
  · rw [show mN 3 y = sg y from rfl, show mE 3 y = 0 from rfl]
    exact (monad3 y hy w).mono fun e w' h => ⟨h.1, 0, h.2⟩
  · rw [show mN 4 y = 0 from rfl, show mE 4 y = 16 from rfl]
    exact (monad4 y hy w).mono fun e w' h => ⟨h.1, 0, h.2⟩
  · rw [show mN 5 y = cut ((y.natAbs : Nat)) from rfl, show mE 5 y = ovr ((y.natAbs : Nat)) from rfl]
    exact (monad5 y hy w).mono fun e w' h => ⟨h.1, 0, h.2⟩
  · rw [show mN 6 y = y from rfl, show mE 6 y = 0 from rfl]
    exact (monad6 y hy w).mono fun e w' h => ⟨h.1, 0, h.2⟩
  · rw [show mN 7 y = y from rfl, show mE 7 y = 0 from rfl]
    exact (monad7 y hy w).mono fun e w' h => ⟨h.1, 0, h.2⟩
  · rw [show mN 8 y = 0 from rfl, show mE 8 y = 16 from rfl]
    exact (monad8 y hy w).mono fun e w' h => ⟨h.1, 0, h.2⟩
  · rw [show mN 9 y = 0 from rfl, show mE 9 y = 16 from rfl]
    exact (monad9 y hy w).mono fun e w' h => ⟨h.1, 0, h.2⟩
  · rw [show mN 10 y = 0 from rfl, show mE 10 y = 16 from rfl]
    exact (monad10 y hy w).mono fun e w' h => ⟨h.1, 0, h.2⟩
  · rw [show mN 11 y = 0 from rfl, show mE 11 y = 16 from rfl]
    exact (monad11 y hy w).mono fun e w' h => ⟨h.1, 0, h.2⟩
  · rw [show mN 12 y = cut (y - 1) from rfl, show mE 12 y = ovr (y - 1) from rfl]
    exact (monad12 y hy w).mono fun e w' h => ⟨h.1, 0, h.2⟩
  · rw [show mN 13 y = cut (y + 1) from rfl, show mE 13 y = ovr (y + 1) from rfl]
    exact (monad13 y hy w).mono fun e w' h => ⟨h.1, 0, h.2⟩
  · rw [show mN 14 y = 0 from rfl, show mE 14 y = 16 from rfl]
    exact (monad14 y hy w).mono fun e w' h => ⟨h.1, 0, h.2⟩
  · rw [show mN 15 y = 0 from rfl, show mE 15 y = 16 from rfl]
    exact (monad15 y hy w).mono fun e w' h => ⟨h.1, 0, h.2⟩
  · rw [show mN 16 y = cut (y + y) from rfl, show mE 16 y = ovr (y + y) from rfl]
    exact (monad16 y hy w).mono fun e w' h => ⟨h.1, 0, h.2⟩
  · rw [show mN 17 y = cut (y * y) from rfl, show mE 17 y = ovr (y * y) from rfl]
    exact (monad17 y hy w).mono fun e w' h => ⟨h.1, 0, h.2⟩
  · rw [show mN 18 y = cut (1 - y) from rfl, show mE 18 y = ovr (1 - y) from rfl]
    exact (monad18 y hy w).mono fun e w' h => ⟨h.1, 0, h.2⟩
  · rw [show mN 19 y = halfN y from rfl, show mE 19 y = halfE y from rfl]
    exact (monad19 y hy w).mono fun e w' h => ⟨h.1, 0, h.2⟩
  · rw [show mN 20 y = 0 from rfl, show mE 20 y = 16 from rfl]
    exact (monad20 y hy w).mono fun e w' h => ⟨h.1, 0, h.2⟩
  · rw [show mN 21 y = factN y from rfl, show mE 21 y = factE y from rfl]
    exact (monad21 y hy w).mono fun e w' h => ⟨h.1, 0, h.2⟩
theorem dyad_any (op x y : Int) (hx : inr x = true) (hy : inr y = true) (w : World) :
    Calls Tryz.prog 93 #[.int .i64 op, .int .i64 x, .int .i64 y] w fun e w' => e = .returned (.tuple #[.int .i64 (dN op x y), .int .i64 (dE op x y)]) ∧ ∃ n, w' = w.drewN n := by
  by_cases h : op < 1
  · have e1 : dN op x y = 0 := by unfold dN; iterate 21 (rw [if_neg (by omega)])
    have e2 : dE op x y = 1 := by unfold dE; iterate 21 (rw [if_neg (by omega)])
    rw [e1, e2]
    exact (dyadOther_lo op x y h w).mono fun e w' h => ⟨h.1, 0, h.2⟩
  by_cases h2 : 21 < op
  · have e1 : dN op x y = 0 := by unfold dN; iterate 21 (rw [if_neg (by omega)])
    have e2 : dE op x y = 1 := by unfold dE; iterate 21 (rw [if_neg (by omega)])
    rw [e1, e2]
    exact (dyadOther_hi op x y h2 w).mono fun e w' h => ⟨h.1, 0, h.2⟩
  rcases (show op = 1 ∨ op = 2 ∨ op = 3 ∨ op = 4 ∨ op = 5 ∨ op = 6 ∨ op = 7 ∨ op = 8 ∨ op = 9 ∨ op = 10 ∨ op = 11 ∨ op = 12 ∨ op = 13 ∨ op = 14 ∨ op = 15 ∨ op = 16 ∨ op = 17 ∨ op = 18 ∨ op = 19 ∨ op = 20 ∨ op = 21 by omega) with rfl | rfl | rfl | rfl | rfl | rfl | rfl | rfl | rfl | rfl | rfl | rfl | rfl | rfl | rfl | rfl | rfl | rfl | rfl | rfl | rfl
  · rw [show dN 1 x y = cut (x + y) from rfl, show dE 1 x y = ovr (x + y) from rfl]
    exact (dyad1 x y hx hy w).mono fun e w' h => ⟨h.1, 0, h.2⟩
  · rw [show dN 2 x y = cut (x - y) from rfl, show dE 2 x y = ovr (x - y) from rfl]
    exact (dyad2 x y hx hy w).mono fun e w' h => ⟨h.1, 0, h.2⟩
  · rw [show dN 3 x y = cut (x * y) from rfl, show dE 3 x y = ovr (x * y) from rfl]
    exact (dyad3 x y hx hy w).mono fun e w' h => ⟨h.1, 0, h.2⟩
  · rw [show dN 4 x y = divN x y from rfl, show dE 4 x y = divE x y from rfl]
    exact (dyad4 x y hx hy w).mono fun e w' h => ⟨h.1, 0, h.2⟩
  · rw [show dN 5 x y = y.fmod x from rfl, show dE 5 x y = 0 from rfl]
    exact (dyad5 x y hx hy w).mono fun e w' h => ⟨h.1, 0, h.2⟩
  · rw [show dN 6 x y = min x y from rfl, show dE 6 x y = 0 from rfl]
    exact (dyad6 x y hx hy w).mono fun e w' h => ⟨h.1, 0, h.2⟩
  · rw [show dN 7 x y = max x y from rfl, show dE 7 x y = 0 from rfl]
    exact (dyad7 x y hx hy w).mono fun e w' h => ⟨h.1, 0, h.2⟩
  · rw [show dN 8 x y = tr (decide (x < y)) from rfl, show dE 8 x y = 0 from rfl]
    exact (dyad8 x y hx hy w).mono fun e w' h => ⟨h.1, 0, h.2⟩
  · rw [show dN 9 x y = tr (decide (y < x)) from rfl, show dE 9 x y = 0 from rfl]
    exact (dyad9 x y hx hy w).mono fun e w' h => ⟨h.1, 0, h.2⟩
  · rw [show dN 10 x y = tr (x == y) from rfl, show dE 10 x y = 0 from rfl]
    exact (dyad10 x y hx hy w).mono fun e w' h => ⟨h.1, 0, h.2⟩
  · rw [show dN 11 x y = tr (x != y) from rfl, show dE 11 x y = 0 from rfl]
    exact (dyad11 x y hx hy w).mono fun e w' h => ⟨h.1, 0, h.2⟩
  · rw [show dN 12 x y = tr (decide (x ≤ y)) from rfl, show dE 12 x y = 0 from rfl]
    exact (dyad12 x y hx hy w).mono fun e w' h => ⟨h.1, 0, h.2⟩
  · rw [show dN 13 x y = tr (decide (y ≤ x)) from rfl, show dE 13 x y = 0 from rfl]
    exact (dyad13 x y hx hy w).mono fun e w' h => ⟨h.1, 0, h.2⟩
  · rw [show dN 14 x y = cut ((Nat.gcd x.natAbs y.natAbs : Nat)) from rfl, show dE 14 x y = ovr ((Nat.gcd x.natAbs y.natAbs : Nat)) from rfl]
    exact dyad14 x y hx hy w
  · rw [show dN 15 x y = cut ((Nat.lcm x.natAbs y.natAbs : Nat)) from rfl, show dE 15 x y = ovr ((Nat.lcm x.natAbs y.natAbs : Nat)) from rfl]
    exact dyad15 x y hx hy w
  · rw [show dN 16 x y = norN x y from rfl, show dE 16 x y = bitE x y from rfl]
    exact (dyad16 x y hx hy w).mono fun e w' h => ⟨h.1, 0, h.2⟩
  · rw [show dN 17 x y = nandN x y from rfl, show dE 17 x y = bitE x y from rfl]
    exact (dyad17 x y hx hy w).mono fun e w' h => ⟨h.1, 0, h.2⟩
  · rw [show dN 18 x y = 0 from rfl, show dE 18 x y = 16 from rfl]
    exact (dyad18 x y hx hy w).mono fun e w' h => ⟨h.1, 0, h.2⟩
  · rw [show dN 19 x y = 0 from rfl, show dE 19 x y = 16 from rfl]
    exact (dyad19 x y hx hy w).mono fun e w' h => ⟨h.1, 0, h.2⟩
  · rw [show dN 20 x y = powN x y from rfl, show dE 20 x y = powE x y from rfl]
    exact (dyad20 x y hx hy w).mono fun e w' h => ⟨h.1, 0, h.2⟩
  · rw [show dN 21 x y = chooseN x y from rfl, show dE 21 x y = chooseE x y from rfl]
    exact dyad21 x y hx hy w
theorem inr_fmod {x y : Int} (hx : inr x = true) (hy : inr y = true) : inr (y.fmod x) = true := by
  rw [inr_iff] at hx hy ⊢
  rcases Int.lt_trichotomy x 0 with h | h | h
  · have := fmod_neg (y := y) h; omega
  · subst h; rw [Int.fmod_zero]; exact hy
  · have := fmod_pos (y := y) h; omega
theorem inr_tr (b : Bool) : inr (tr b) = true := by cases b <;> rfl
theorem inr_sg (n : Int) : inr (sg n) = true := by unfold sg; repeat' split
                                                   all_goals rfl
theorem ite_ind (P : Int → Prop) {c : Prop} [Decidable c] {a b : Int} (ha : P a) (hb : P b) : P (if c then a else b) := by
  by_cases h : c
  · rw [if_pos h]; exact ha
  · rw [if_neg h]; exact hb
theorem inr_half {y : Int} (hy : inr y = true) : inr (halfN y) = true := by
  rw [inr_iff] at hy
  unfold halfN
  refine ite_ind (fun z => inr z = true) ?_ rfl
  rw [inr_iff]; omega
theorem inr_fact (y : Int) : inr (factN y) = true := ite_ind (fun z => inr z = true) rfl (inr_cut _)
theorem inr_div (x y : Int) : inr (divN x y) = true := ite_ind (fun z => inr z = true) rfl (inr_cut _)
theorem inr_nor (x y : Int) : inr (norN x y) = true := ite_ind (fun z => inr z = true) (inr_tr _) rfl
theorem inr_nand (x y : Int) : inr (nandN x y) = true := ite_ind (fun z => inr z = true) (inr_tr _) rfl
theorem inr_cho (x y : Int) : inr (chooseN x y) = true := ite_ind (fun z => inr z = true) rfl (inr_cut _)
theorem inr_pow (x y : Int) : inr (powN x y) = true := ite_ind (fun z => inr z = true) (inr_cut _) (ite_ind (fun z => inr z = true) rfl (ite_ind (fun z => inr z = true) (ite_ind (fun z => inr z = true) rfl rfl) rfl))
theorem inr_min {x y : Int} (hx : inr x = true) (hy : inr y = true) : inr (min x y) = true := by rw [inr_iff] at *; omega
theorem inr_max {x y : Int} (hx : inr x = true) (hy : inr y = true) : inr (max x y) = true := by rw [inr_iff] at *; omega
theorem inr_mN (op y : Int) (hy : inr y = true) : inr (mN op y) = true := by
  unfold mN
  exact (ite_ind (fun z => inr z = true) (hy) (ite_ind (fun z => inr z = true) (inr_cut _) (ite_ind (fun z => inr z = true) (inr_sg _) (ite_ind (fun z => inr z = true) (rfl) (ite_ind (fun z => inr z = true) (inr_cut _) (ite_ind (fun z => inr z = true) (hy) (ite_ind (fun z => inr z = true) (hy) (ite_ind (fun z => inr z = true) (rfl) (ite_ind (fun z => inr z = true) (rfl) (ite_ind (fun z => inr z = true) (rfl) (ite_ind (fun z => inr z = true) (rfl) (ite_ind (fun z => inr z = true) (inr_cut _) (ite_ind (fun z => inr z = true) (inr_cut _) (ite_ind (fun z => inr z = true) (rfl) (ite_ind (fun z => inr z = true) (rfl) (ite_ind (fun z => inr z = true) (inr_cut _) (ite_ind (fun z => inr z = true) (inr_cut _) (ite_ind (fun z => inr z = true) (inr_cut _) (ite_ind (fun z => inr z = true) (inr_half hy) (ite_ind (fun z => inr z = true) (rfl) (ite_ind (fun z => inr z = true) (inr_fact _) rfl)))))))))))))))))))))
theorem inr_dN (op x y : Int) (hx : inr x = true) (hy : inr y = true) : inr (dN op x y) = true := by
  unfold dN
  exact (ite_ind (fun z => inr z = true) (inr_cut _) (ite_ind (fun z => inr z = true) (inr_cut _) (ite_ind (fun z => inr z = true) (inr_cut _) (ite_ind (fun z => inr z = true) (inr_div _ _) (ite_ind (fun z => inr z = true) (inr_fmod hx hy) (ite_ind (fun z => inr z = true) (inr_min hx hy) (ite_ind (fun z => inr z = true) (inr_max hx hy) (ite_ind (fun z => inr z = true) (inr_tr _) (ite_ind (fun z => inr z = true) (inr_tr _) (ite_ind (fun z => inr z = true) (inr_tr _) (ite_ind (fun z => inr z = true) (inr_tr _) (ite_ind (fun z => inr z = true) (inr_tr _) (ite_ind (fun z => inr z = true) (inr_tr _) (ite_ind (fun z => inr z = true) (inr_cut _) (ite_ind (fun z => inr z = true) (inr_cut _) (ite_ind (fun z => inr z = true) (inr_nor _ _) (ite_ind (fun z => inr z = true) (inr_nand _ _) (ite_ind (fun z => inr z = true) (rfl) (ite_ind (fun z => inr z = true) (rfl) (ite_ind (fun z => inr z = true) (inr_pow _ _) (ite_ind (fun z => inr z = true) (inr_cho _ _) rfl)))))))))))))))))))))
end Go.Proofs.YtelcagfaflpolaaGreat.Nm
