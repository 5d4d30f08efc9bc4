
/- Contracts of package num's Monad and Dyad, a theorem a row of the document's table. -/

import Derived.Test.YthncgocjegalhaaNPows

import Derived.Test.YthncgocjegalhaaNDivs

namespace Go.Proofs.Ythncgocjegalhaa.Nm

open Go.RowKit

set_option linter.unusedVariables false

set_option maxRecDepth 20000 in
theorem monad1 (y : Int) (hy : inr y = true) (w : World) :
    Calls Try.prog 49 #[.int .i64 1, .int .i64 y] w fun e w' => e = .returned (.tuple #[.int .i64 (y), .int .i64 (0)]) ∧ w' = w := by
  go_enter Try.func49, Try.ntmps49
  go_wp2
  go_ret2
  exact ⟨rfl, rfl⟩
set_option maxRecDepth 20000 in
theorem monad2 (y : Int) (hy : inr y = true) (w : World) :
    Calls Try.prog 49 #[.int .i64 2, .int .i64 y] w fun e w' => e = .returned (.tuple #[.int .i64 (cut (-y)), .int .i64 (ovr (-y))]) ∧ w' = w := by
  go_enter Try.func49, Try.ntmps49
  go_wp2_with (first | (go_at_call 59; refine (neg64 _ (by assumption) _).mono ?_; rintro e w' ⟨rfl, rfl⟩) | (go_at_call 58; refine (checked_cut _ _).mono ?_; rintro e w' ⟨rfl, rfl⟩))
  go_ret2
  exact ⟨rfl, rfl⟩
set_option maxRecDepth 20000 in
theorem monad3 (y : Int) (hy : inr y = true) (w : World) :
    Calls Try.prog 49 #[.int .i64 3, .int .i64 y] w fun e w' => e = .returned (.tuple #[.int .i64 (sg y), .int .i64 (0)]) ∧ w' = w := by
  go_enter Try.func49, Try.ntmps49
  go_wp2_with (first | (go_at_call 60; refine (sign_any _ _).mono ?_; rintro e w' ⟨rfl, rfl⟩))
  go_ret2
  exact ⟨rfl, rfl⟩
set_option maxRecDepth 20000 in
theorem monad4 (y : Int) (hy : inr y = true) (w : World) :
    Calls Try.prog 49 #[.int .i64 4, .int .i64 y] w fun e w' => e = .returned (.tuple #[.int .i64 (0), .int .i64 (16)]) ∧ w' = w := by
  go_enter Try.func49, Try.ntmps49
  go_wp2
  go_ret2
  exact ⟨rfl, rfl⟩
set_option maxRecDepth 20000 in
theorem monad5 (y : Int) (hy : inr y = true) (w : World) :
    Calls Try.prog 49 #[.int .i64 5, .int .i64 y] w fun e w' => e = .returned (.tuple #[.int .i64 (cut ((y.natAbs : Nat))), .int .i64 (ovr ((y.natAbs : Nat)))]) ∧ w' = w := by
  have hb := inr_iff.1 hy
  have hz : y.natAbs < 18446744073709551616 := by omega
  clear hb
  go_enter Try.func49, Try.ntmps49
  go_wp2_with (first | (go_at_call 62; refine (size_any _ (by assumption) _).mono ?_; rintro e w' ⟨rfl, rfl⟩) | (go_at_call 61; refine (unsigned_any _ (by assumption) _).mono ?_; rintro e w' ⟨rfl, rfl⟩))
  go_ret2
  exact ⟨rfl, rfl⟩
set_option maxRecDepth 20000 in
theorem monad6 (y : Int) (hy : inr y = true) (w : World) :
    Calls Try.prog 49 #[.int .i64 6, .int .i64 y] w fun e w' => e = .returned (.tuple #[.int .i64 (y), .int .i64 (0)]) ∧ w' = w := by
  go_enter Try.func49, Try.ntmps49
  go_wp2
  go_ret2
  exact ⟨rfl, rfl⟩
set_option maxRecDepth 20000 in
theorem monad7 (y : Int) (hy : inr y = true) (w : World) :
    Calls Try.prog 49 #[.int .i64 7, .int .i64 y] w fun e w' => e = .returned (.tuple #[.int .i64 (y), .int .i64 (0)]) ∧ w' = w := by
  go_enter Try.func49, Try.ntmps49
  go_wp2
  go_ret2
  exact ⟨rfl, rfl⟩
set_option maxRecDepth 20000 in
theorem monad8 (y : Int) (hy : inr y = true) (w : World) :
    Calls Try.prog 49 #[.int .i64 8, .int .i64 y] w fun e w' => e = .returned (.tuple #[.int .i64 (0), .int .i64 (16)]) ∧ w' = w := by
  go_enter Try.func49, Try.ntmps49
  go_wp2
  go_ret2
  exact ⟨rfl, rfl⟩
set_option maxRecDepth 20000 in
theorem monad9 (y : Int) (hy : inr y = true) (w : World) :
    Calls Try.prog 49 #[.int .i64 9, .int .i64 y] w fun e w' => e = .returned (.tuple #[.int .i64 (0), .int .i64 (16)]) ∧ w' = w := by
  go_enter Try.func49, Try.ntmps49
  go_wp2
  go_ret2
  exact ⟨rfl, rfl⟩
set_option maxRecDepth 20000 in
theorem monad10 (y : Int) (hy : inr y = true) (w : World) :
    Calls Try.prog 49 #[.int .i64 10, .int .i64 y] w fun e w' => e = .returned (.tuple #[.int .i64 (0), .int .i64 (16)]) ∧ w' = w := by
  go_enter Try.func49, Try.ntmps49
  go_wp2
  go_ret2
  exact ⟨rfl, rfl⟩
set_option maxRecDepth 20000 in
theorem monad11 (y : Int) (hy : inr y = true) (w : World) :
    Calls Try.prog 49 #[.int .i64 11, .int .i64 y] w fun e w' => e = .returned (.tuple #[.int .i64 (0), .int .i64 (16)]) ∧ w' = w := by
  go_enter Try.func49, Try.ntmps49
  go_wp2
  go_ret2
  exact ⟨rfl, rfl⟩
set_option maxRecDepth 20000 in
theorem monad12 (y : Int) (hy : inr y = true) (w : World) :
    Calls Try.prog 49 #[.int .i64 12, .int .i64 y] w fun e w' => e = .returned (.tuple #[.int .i64 (cut (y - 1)), .int .i64 (ovr (y - 1))]) ∧ w' = w := by
  go_enter Try.func49, Try.ntmps49
  go_wp2_with (first | (go_at_call 59; refine (sub64 _ _ (by first | assumption | rfl) (by first | assumption | rfl) _).mono ?_; rintro e w' ⟨rfl, rfl⟩) | (go_at_call 58; refine (checked_cut _ _).mono ?_; rintro e w' ⟨rfl, rfl⟩))
  go_ret2
  exact ⟨rfl, rfl⟩
set_option maxRecDepth 20000 in
theorem monad13 (y : Int) (hy : inr y = true) (w : World) :
    Calls Try.prog 49 #[.int .i64 13, .int .i64 y] w fun e w' => e = .returned (.tuple #[.int .i64 (cut (y + 1)), .int .i64 (ovr (y + 1))]) ∧ w' = w := by
  go_enter Try.func49, Try.ntmps49
  go_wp2_with (first | (go_at_call 63; refine (add64 _ _ (by first | assumption | rfl) (by first | assumption | rfl) _).mono ?_; rintro e w' ⟨rfl, rfl⟩) | (go_at_call 58; refine (checked_cut _ _).mono ?_; rintro e w' ⟨rfl, rfl⟩))
  go_ret2
  exact ⟨rfl, rfl⟩
set_option maxRecDepth 20000 in
theorem monad14 (y : Int) (hy : inr y = true) (w : World) :
    Calls Try.prog 49 #[.int .i64 14, .int .i64 y] w fun e w' => e = .returned (.tuple #[.int .i64 (0), .int .i64 (16)]) ∧ w' = w := by
  go_enter Try.func49, Try.ntmps49
  go_wp2
  go_ret2
  exact ⟨rfl, rfl⟩
set_option maxRecDepth 20000 in
theorem monad15 (y : Int) (hy : inr y = true) (w : World) :
    Calls Try.prog 49 #[.int .i64 15, .int .i64 y] w fun e w' => e = .returned (.tuple #[.int .i64 (0), .int .i64 (16)]) ∧ w' = w := by
  go_enter Try.func49, Try.ntmps49
  go_wp2
  go_ret2
  exact ⟨rfl, rfl⟩
set_option maxRecDepth 20000 in
theorem monad16 (y : Int) (hy : inr y = true) (w : World) :
    Calls Try.prog 49 #[.int .i64 16, .int .i64 y] w fun e w' => e = .returned (.tuple #[.int .i64 (cut (y + y)), .int .i64 (ovr (y + y))]) ∧ w' = w := by
  go_enter Try.func49, Try.ntmps49
  go_wp2_with (first | (go_at_call 63; refine (add64 _ _ (by first | assumption | rfl) (by first | assumption | rfl) _).mono ?_; rintro e w' ⟨rfl, rfl⟩) | (go_at_call 58; refine (checked_cut _ _).mono ?_; rintro e w' ⟨rfl, rfl⟩))
  go_ret2
  exact ⟨rfl, rfl⟩
set_option maxRecDepth 20000 in
theorem monad17 (y : Int) (hy : inr y = true) (w : World) :
    Calls Try.prog 49 #[.int .i64 17, .int .i64 y] w fun e w' => e = .returned (.tuple #[.int .i64 (cut (y * y)), .int .i64 (ovr (y * y))]) ∧ w' = w := by
  go_enter Try.func49, Try.ntmps49
  go_wp2_with (first | (go_at_call 64; refine (mul64 _ _ (by assumption) (by assumption) _).mono ?_; rintro e w' ⟨rfl, rfl⟩) | (go_at_call 58; refine (checked_cut _ _).mono ?_; rintro e w' ⟨rfl, rfl⟩))
  go_ret2
  exact ⟨rfl, rfl⟩
set_option maxRecDepth 20000 in
theorem monad18 (y : Int) (hy : inr y = true) (w : World) :
    Calls Try.prog 49 #[.int .i64 18, .int .i64 y] w fun e w' => e = .returned (.tuple #[.int .i64 (cut (1 - y)), .int .i64 (ovr (1 - y))]) ∧ w' = w := by
  go_enter Try.func49, Try.ntmps49
  go_wp2_with (first | (go_at_call 59; refine (sub64 _ _ (by first | assumption | rfl) (by first | assumption | rfl) _).mono ?_; rintro e w' ⟨rfl, rfl⟩) | (go_at_call 58; refine (checked_cut _ _).mono ?_; rintro e w' ⟨rfl, rfl⟩))
  go_ret2
  exact ⟨rfl, rfl⟩
set_option maxRecDepth 20000 in
theorem monad19 (y : Int) (hy : inr y = true) (w : World) :
    Calls Try.prog 49 #[.int .i64 19, .int .i64 y] w fun e w' => e = .returned (.tuple #[.int .i64 (halfN y), .int .i64 (halfE y)]) ∧ w' = w := by
  go_enter Try.func49, Try.ntmps49
  go_wp2_with (first | (go_at_call 65; refine (half_any _ (by assumption) _).mono ?_; rintro e w' ⟨rfl, rfl⟩))
  go_ret2
  exact ⟨rfl, rfl⟩
set_option maxRecDepth 20000 in
theorem monad20 (y : Int) (hy : inr y = true) (w : World) :
    Calls Try.prog 49 #[.int .i64 20, .int .i64 y] w fun e w' => e = .returned (.tuple #[.int .i64 (0), .int .i64 (16)]) ∧ w' = w := by
  go_enter Try.func49, Try.ntmps49
  go_wp2
  go_ret2
  exact ⟨rfl, rfl⟩
set_option maxRecDepth 20000 in
theorem monad21 (y : Int) (hy : inr y = true) (w : World) :
    Calls Try.prog 49 #[.int .i64 21, .int .i64 y] w fun e w' => e = .returned (.tuple #[.int .i64 (factN y), .int .i64 (factE y)]) ∧ w' = w := by
  go_enter Try.func49, Try.ntmps49
  go_wp2_with (first | (go_at_call 66; refine (factorial_any _ (by assumption) _).mono ?_; rintro e w' ⟨rfl, rfl⟩))
  go_ret2
  exact ⟨rfl, rfl⟩
theorem gcd_small {a b : Nat} (ha : a < 18446744073709551616) (hb : b < 18446744073709551616) : Nat.gcd a b < 18446744073709551616 := by
  rcases Nat.eq_zero_or_pos a with h | h
  · subst h; rw [Nat.gcd_zero_left]; exact hb
  · exact Nat.lt_of_le_of_lt (Nat.gcd_le_left _ h) ha
set_option maxRecDepth 20000 in
theorem dyad1 (x y : Int) (hx : inr x = true) (hy : inr y = true) (w : World) :
    Calls Try.prog 52 #[.int .i64 1, .int .i64 x, .int .i64 y] w fun e w' => e = .returned (.tuple #[.int .i64 (cut (x + y)), .int .i64 (ovr (x + y))]) ∧ w' = w := by
  go_enter Try.func52, Try.ntmps52
  go_wp2_with (first | (go_at_call 63; refine (add64 _ _ (by first | assumption | rfl) (by first | assumption | rfl) _).mono ?_; rintro e w' ⟨rfl, rfl⟩) | (go_at_call 58; refine (checked_cut _ _).mono ?_; rintro e w' ⟨rfl, rfl⟩))
  go_ret2
  exact ⟨rfl, rfl⟩
set_option maxRecDepth 20000 in
theorem dyad2 (x y : Int) (hx : inr x = true) (hy : inr y = true) (w : World) :
    Calls Try.prog 52 #[.int .i64 2, .int .i64 x, .int .i64 y] w fun e w' => e = .returned (.tuple #[.int .i64 (cut (x - y)), .int .i64 (ovr (x - y))]) ∧ w' = w := by
  go_enter Try.func52, Try.ntmps52
  go_wp2_with (first | (go_at_call 59; refine (sub64 _ _ (by first | assumption | rfl) (by first | assumption | rfl) _).mono ?_; rintro e w' ⟨rfl, rfl⟩) | (go_at_call 58; refine (checked_cut _ _).mono ?_; rintro e w' ⟨rfl, rfl⟩))
  go_ret2
  exact ⟨rfl, rfl⟩
set_option maxRecDepth 20000 in
theorem dyad3 (x y : Int) (hx : inr x = true) (hy : inr y = true) (w : World) :
    Calls Try.prog 52 #[.int .i64 3, .int .i64 x, .int .i64 y] w fun e w' => e = .returned (.tuple #[.int .i64 (cut (x * y)), .int .i64 (ovr (x * y))]) ∧ w' = w := by
  go_enter Try.func52, Try.ntmps52
  go_wp2_with (first | (go_at_call 64; refine (mul64 _ _ (by assumption) (by assumption) _).mono ?_; rintro e w' ⟨rfl, rfl⟩) | (go_at_call 58; refine (checked_cut _ _).mono ?_; rintro e w' ⟨rfl, rfl⟩))
  go_ret2
  exact ⟨rfl, rfl⟩
set_option maxRecDepth 20000 in
theorem dyad4 (x y : Int) (hx : inr x = true) (hy : inr y = true) (w : World) :
    Calls Try.prog 52 #[.int .i64 4, .int .i64 x, .int .i64 y] w fun e w' => e = .returned (.tuple #[.int .i64 (divN x y), .int .i64 (divE x y)]) ∧ w' = w := by
  go_enter Try.func52, Try.ntmps52
  go_wp2_with (first | (go_at_call 67; refine (quotient_any _ _ (by assumption) (by assumption) _).mono ?_; rintro e w' ⟨rfl, rfl⟩))
  go_ret2
  exact ⟨rfl, rfl⟩
set_option maxRecDepth 20000 in
theorem dyad5 (x y : Int) (hx : inr x = true) (hy : inr y = true) (w : World) :
    Calls Try.prog 52 #[.int .i64 5, .int .i64 x, .int .i64 y] w fun e w' => e = .returned (.tuple #[.int .i64 (y.fmod x), .int .i64 (0)]) ∧ w' = w := by
  go_enter Try.func52, Try.ntmps52
  go_wp2_with (first | (go_at_call 68; refine (residue_any _ _ (by assumption) (by assumption) _).mono ?_; rintro e w' ⟨rfl, rfl⟩))
  go_ret2
  exact ⟨rfl, rfl⟩
set_option maxRecDepth 20000 in
theorem dyad6 (x y : Int) (hx : inr x = true) (hy : inr y = true) (w : World) :
    Calls Try.prog 52 #[.int .i64 6, .int .i64 x, .int .i64 y] w fun e w' => e = .returned (.tuple #[.int .i64 (min x y), .int .i64 (0)]) ∧ w' = w := by
  go_enter Try.func52, Try.ntmps52
  go_wp2
  all_goals
    go_ret2
    exact ⟨ret_two (by omega) rfl, rfl⟩
set_option maxRecDepth 20000 in
theorem dyad7 (x y : Int) (hx : inr x = true) (hy : inr y = true) (w : World) :
    Calls Try.prog 52 #[.int .i64 7, .int .i64 x, .int .i64 y] w fun e w' => e = .returned (.tuple #[.int .i64 (max x y), .int .i64 (0)]) ∧ w' = w := by
  go_enter Try.func52, Try.ntmps52
  go_wp2
  all_goals
    go_ret2
    exact ⟨ret_two (by omega) rfl, rfl⟩
set_option maxRecDepth 20000 in
theorem dyad8 (x y : Int) (hx : inr x = true) (hy : inr y = true) (w : World) :
    Calls Try.prog 52 #[.int .i64 8, .int .i64 x, .int .i64 y] w fun e w' => e = .returned (.tuple #[.int .i64 (tr (decide (x < y))), .int .i64 (0)]) ∧ w' = w := by
  go_enter Try.func52, Try.ntmps52
  go_wp2_with (first | (go_at_call 69; refine (truth_any _ _).mono ?_; rintro e w' ⟨rfl, rfl⟩))
  go_ret2
  exact ⟨rfl, rfl⟩
set_option maxRecDepth 20000 in
theorem dyad9 (x y : Int) (hx : inr x = true) (hy : inr y = true) (w : World) :
    Calls Try.prog 52 #[.int .i64 9, .int .i64 x, .int .i64 y] w fun e w' => e = .returned (.tuple #[.int .i64 (tr (decide (y < x))), .int .i64 (0)]) ∧ w' = w := by
  go_enter Try.func52, Try.ntmps52
  go_wp2_with (first | (go_at_call 69; refine (truth_any _ _).mono ?_; rintro e w' ⟨rfl, rfl⟩))
  go_ret2
  exact ⟨rfl, rfl⟩
set_option maxRecDepth 20000 in
theorem dyad10 (x y : Int) (hx : inr x = true) (hy : inr y = true) (w : World) :
    Calls Try.prog 52 #[.int .i64 10, .int .i64 x, .int .i64 y] w fun e w' => e = .returned (.tuple #[.int .i64 (tr (x == y)), .int .i64 (0)]) ∧ w' = w := by
  go_enter Try.func52, Try.ntmps52
  go_wp2_with (first | (go_at_call 69; refine (truth_any _ _).mono ?_; rintro e w' ⟨rfl, rfl⟩))
  go_ret2
  exact ⟨rfl, rfl⟩
set_option maxRecDepth 20000 in
theorem dyad11 (x y : Int) (hx : inr x = true) (hy : inr y = true) (w : World) :
    Calls Try.prog 52 #[.int .i64 11, .int .i64 x, .int .i64 y] w fun e w' => e = .returned (.tuple #[.int .i64 (tr (x != y)), .int .i64 (0)]) ∧ w' = w := by
  go_enter Try.func52, Try.ntmps52
  go_wp2_with (first | (go_at_call 69; refine (truth_any _ _).mono ?_; rintro e w' ⟨rfl, rfl⟩))
  go_ret2
  exact ⟨rfl, rfl⟩
set_option maxRecDepth 20000 in
theorem dyad12 (x y : Int) (hx : inr x = true) (hy : inr y = true) (w : World) :
    Calls Try.prog 52 #[.int .i64 12, .int .i64 x, .int .i64 y] w fun e w' => e = .returned (.tuple #[.int .i64 (tr (decide (x ≤ y))), .int .i64 (0)]) ∧ w' = w := by
  go_enter Try.func52, Try.ntmps52
  go_wp2_with (first | (go_at_call 69; refine (truth_any _ _).mono ?_; rintro e w' ⟨rfl, rfl⟩))
  go_ret2
  exact ⟨rfl, rfl⟩
set_option maxRecDepth 20000 in
theorem dyad13 (x y : Int) (hx : inr x = true) (hy : inr y = true) (w : World) :
    Calls Try.prog 52 #[.int .i64 13, .int .i64 x, .int .i64 y] w fun e w' => e = .returned (.tuple #[.int .i64 (tr (decide (y ≤ x))), .int .i64 (0)]) ∧ w' = w := by
  go_enter Try.func52, Try.ntmps52
  go_wp2_with (first | (go_at_call 69; refine (truth_any _ _).mono ?_; rintro e w' ⟨rfl, rfl⟩))
  go_ret2
  exact ⟨rfl, rfl⟩
set_option maxRecDepth 20000 in
theorem dyad14 (x y : Int) (hx : inr x = true) (hy : inr y = true) (w : World) :
    Calls Try.prog 52 #[.int .i64 14, .int .i64 x, .int .i64 y] w fun e w' => e = .returned (.tuple #[.int .i64 (cut ((Nat.gcd x.natAbs y.natAbs : Nat))), .int .i64 (ovr ((Nat.gcd x.natAbs y.natAbs : Nat)))]) ∧ ∃ n, w' = w.drewN n := by
  have hbx := inr_iff.1 hx
  have hby := inr_iff.1 hy
  have hzx : x.natAbs < 18446744073709551616 := by omega
  have hzy : y.natAbs < 18446744073709551616 := by omega
  have hzg := gcd_small hzx hzy
  clear hbx hby
  go_enter Try.func52, Try.ntmps52
  go_wp2_with (first | (go_at_call 62; refine (size_any _ (by assumption) _).mono ?_; rintro e w' ⟨rfl, rfl⟩) | (go_at_call 70; refine (divisor_any _ _ (by assumption) (by assumption) _).mono ?_; rintro e w' ⟨rfl, n, rfl⟩) | (go_at_call 61; refine (unsigned_any _ (by assumption) _).mono ?_; rintro e w' ⟨rfl, rfl⟩))
  go_ret2
  exact ⟨rfl, _, rfl⟩
set_option maxRecDepth 20000 in
theorem dyad15 (x y : Int) (hx : inr x = true) (hy : inr y = true) (w : World) :
    Calls Try.prog 52 #[.int .i64 15, .int .i64 x, .int .i64 y] w fun e w' => e = .returned (.tuple #[.int .i64 (cut ((Nat.lcm x.natAbs y.natAbs : Nat))), .int .i64 (ovr ((Nat.lcm x.natAbs y.natAbs : Nat)))]) ∧ ∃ n, w' = w.drewN n := by
  go_enter Try.func52, Try.ntmps52
  go_wp2_with (first | (go_at_call 71; refine (multiple_any _ _ (by assumption) (by assumption) _).mono ?_; rintro e w' ⟨rfl, n, rfl⟩))
  go_ret2
  exact ⟨rfl, _, rfl⟩
set_option maxRecDepth 20000 in
theorem dyad16 (x y : Int) (hx : inr x = true) (hy : inr y = true) (w : World) :
    Calls Try.prog 52 #[.int .i64 16, .int .i64 x, .int .i64 y] w fun e w' => e = .returned (.tuple #[.int .i64 (norN x y), .int .i64 (bitE x y)]) ∧ w' = w := by
  go_enter Try.func52, Try.ntmps52
  go_wp2_with (first | (go_at_call 72; refine (nor_any _ _ _).mono ?_; rintro e w' ⟨rfl, rfl⟩))
  go_ret2
  exact ⟨rfl, rfl⟩
set_option maxRecDepth 20000 in
theorem dyad17 (x y : Int) (hx : inr x = true) (hy : inr y = true) (w : World) :
    Calls Try.prog 52 #[.int .i64 17, .int .i64 x, .int .i64 y] w fun e w' => e = .returned (.tuple #[.int .i64 (nandN x y), .int .i64 (bitE x y)]) ∧ w' = w := by
  go_enter Try.func52, Try.ntmps52
  go_wp2_with (first | (go_at_call 73; refine (nand_any _ _ _).mono ?_; rintro e w' ⟨rfl, rfl⟩))
  go_ret2
  exact ⟨rfl, rfl⟩
set_option maxRecDepth 20000 in
theorem dyad18 (x y : Int) (hx : inr x = true) (hy : inr y = true) (w : World) :
    Calls Try.prog 52 #[.int .i64 18, .int .i64 x, .int .i64 y] w fun e w' => e = .returned (.tuple #[.int .i64 (0), .int .i64 (16)]) ∧ w' = w := by
  go_enter Try.func52, Try.ntmps52
  go_wp2
  go_ret2
  exact ⟨rfl, rfl⟩
set_option maxRecDepth 20000 in
theorem dyad19 (x y : Int) (hx : inr x = true) (hy : inr y = true) (w : World) :
    Calls Try.prog 52 #[.int .i64 19, .int .i64 x, .int .i64 y] w fun e w' => e = .returned (.tuple #[.int .i64 (0), .int .i64 (16)]) ∧ w' = w := by
  go_enter Try.func52, Try.ntmps52
  go_wp2
  go_ret2
  exact ⟨rfl, rfl⟩
set_option maxRecDepth 20000 in
theorem dyad20 (x y : Int) (hx : inr x = true) (hy : inr y = true) (w : World) :
    Calls Try.prog 52 #[.int .i64 20, .int .i64 x, .int .i64 y] w fun e w' => e = .returned (.tuple #[.int .i64 (powN x y), .int .i64 (powE x y)]) ∧ w' = w := by
  go_enter Try.func52, Try.ntmps52
  go_wp2_with (first | (go_at_call 74; refine (power_any _ _ (by assumption) (by assumption) _).mono ?_; rintro e w' ⟨rfl, rfl⟩))
  go_ret2
  exact ⟨rfl, rfl⟩
end Go.Proofs.Ythncgocjegalhaa.Nm
