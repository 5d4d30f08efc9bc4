
/- Contracts of the document's own answer (abacusref1): Monad and Dyad, a theorem a row. -/

import Derived.Test.YtpkednlfhdpdhaaNRef5

namespace Go.Proofs.Ytpkednlfhdpdhaa.Nm

open Go.RowKit

set_option linter.unusedVariables false

theorem rNeg (b : Int) (hb : inr b = true) (w : World) :
    Calls Try.prog 67 #[.int .i64 0, .int .i64 b] w fun e w' => e = .returned (.tuple #[.int .i64 (cut (-b)), .int .i64 (ovr (-b))]) ∧ w' = w := by
  have h := rLess 0 b rfl hb w
  rw [show (0 : Int) - b = -b by omega] at h
  exact h
theorem rTruth (b : Bool) (w : World) :
    Calls Try.prog 73 #[.bool b] w fun e w' => e = .returned (.tuple #[.int .i64 (tr b), .int .i64 0]) ∧ w' = w := by
  cases b <;> (go_enter Try.func73, Try.ntmps73; go_wp2; go_ret2; exact ⟨rfl, rfl⟩)
set_option maxRecDepth 20000 in
theorem rMonad1 (y : Int) (hy : inr y = true) (w : World) :
    Calls Try.prog 30 #[.int .i64 1, .int .i64 y] w fun e w' => e = .returned (.tuple #[.int .i64 (y), .int .i64 (0)]) ∧ w' = w := by
  go_enter Try.func30, Try.ntmps30
  go_wp2
  go_ret2
  exact ⟨rfl, rfl⟩
set_option maxRecDepth 20000 in
theorem rMonad2 (y : Int) (hy : inr y = true) (w : World) :
    Calls Try.prog 30 #[.int .i64 2, .int .i64 y] w fun e w' => e = .returned (.tuple #[.int .i64 (cut (-y)), .int .i64 (ovr (-y))]) ∧ w' = w := by
  go_enter Try.func30, Try.ntmps30
  go_wp2_with (first | (go_at_call 67; refine (rNeg _ (by assumption) _).mono ?_; rintro e w' ⟨rfl, rfl⟩) | go_in)
  go_ret2
  exact ⟨rfl, rfl⟩
set_option maxRecDepth 20000 in
theorem rMonad4 (y : Int) (hy : inr y = true) (w : World) :
    Calls Try.prog 30 #[.int .i64 4, .int .i64 y] w fun e w' => e = .returned (.tuple #[.int .i64 (0), .int .i64 (16)]) ∧ w' = w := by
  go_enter Try.func30, Try.ntmps30
  go_wp2
  go_ret2
  exact ⟨rfl, rfl⟩
set_option maxRecDepth 20000 in
theorem rMonad5 (y : Int) (hy : inr y = true) (w : World) :
    Calls Try.prog 30 #[.int .i64 5, .int .i64 y] w fun e w' => e = .returned (.tuple #[.int .i64 (cut ((y.natAbs : Nat))), .int .i64 (ovr ((y.natAbs : Nat)))]) ∧ w' = w := by
  have hb := inr_iff.1 hy
  have hz : y.natAbs < 18446744073709551616 := by omega
  clear hb
  go_enter Try.func30, Try.ntmps30
  go_wp2_with (first | (go_at_call 69; refine (rSize _ (by assumption) _).mono ?_; rintro e w' ⟨rfl, rfl⟩) | (go_at_call 68; refine (rSigned _ _ (by assumption) _).mono ?_; rintro e w' ⟨rfl, rfl⟩) | go_in)
  go_ret2
  exact ⟨rfl, rfl⟩
set_option maxRecDepth 20000 in
theorem rMonad6 (y : Int) (hy : inr y = true) (w : World) :
    Calls Try.prog 30 #[.int .i64 6, .int .i64 y] w fun e w' => e = .returned (.tuple #[.int .i64 (y), .int .i64 (0)]) ∧ w' = w := by
  go_enter Try.func30, Try.ntmps30
  go_wp2
  go_ret2
  exact ⟨rfl, rfl⟩
set_option maxRecDepth 20000 in
theorem rMonad7 (y : Int) (hy : inr y = true) (w : World) :
    Calls Try.prog 30 #[.int .i64 7, .int .i64 y] w fun e w' => e = .returned (.tuple #[.int .i64 (y), .int .i64 (0)]) ∧ w' = w := by
  go_enter Try.func30, Try.ntmps30
  go_wp2
  go_ret2
  exact ⟨rfl, rfl⟩
set_option maxRecDepth 20000 in
theorem rMonad8 (y : Int) (hy : inr y = true) (w : World) :
    Calls Try.prog 30 #[.int .i64 8, .int .i64 y] w fun e w' => e = .returned (.tuple #[.int .i64 (0), .int .i64 (16)]) ∧ w' = w := by
  go_enter Try.func30, Try.ntmps30
  go_wp2
  go_ret2
  exact ⟨rfl, rfl⟩
set_option maxRecDepth 20000 in
theorem rMonad9 (y : Int) (hy : inr y = true) (w : World) :
    Calls Try.prog 30 #[.int .i64 9, .int .i64 y] w fun e w' => e = .returned (.tuple #[.int .i64 (0), .int .i64 (16)]) ∧ w' = w := by
  go_enter Try.func30, Try.ntmps30
  go_wp2
  go_ret2
  exact ⟨rfl, rfl⟩
set_option maxRecDepth 20000 in
theorem rMonad10 (y : Int) (hy : inr y = true) (w : World) :
    Calls Try.prog 30 #[.int .i64 10, .int .i64 y] w fun e w' => e = .returned (.tuple #[.int .i64 (0), .int .i64 (16)]) ∧ w' = w := by
  go_enter Try.func30, Try.ntmps30
  go_wp2
  go_ret2
  exact ⟨rfl, rfl⟩
set_option maxRecDepth 20000 in
theorem rMonad11 (y : Int) (hy : inr y = true) (w : World) :
    Calls Try.prog 30 #[.int .i64 11, .int .i64 y] w fun e w' => e = .returned (.tuple #[.int .i64 (0), .int .i64 (16)]) ∧ w' = w := by
  go_enter Try.func30, Try.ntmps30
  go_wp2
  go_ret2
  exact ⟨rfl, rfl⟩
set_option maxRecDepth 20000 in
theorem rMonad12 (y : Int) (hy : inr y = true) (w : World) :
    Calls Try.prog 30 #[.int .i64 12, .int .i64 y] w fun e w' => e = .returned (.tuple #[.int .i64 (cut (y - 1)), .int .i64 (ovr (y - 1))]) ∧ w' = w := by
  go_enter Try.func30, Try.ntmps30
  go_wp2_with (first | (go_at_call 67; refine (rLess _ _ (by first | assumption | rfl) (by first | assumption | rfl) _).mono ?_; rintro e w' ⟨rfl, rfl⟩) | go_in)
  go_ret2
  exact ⟨rfl, rfl⟩
set_option maxRecDepth 20000 in
theorem rMonad13 (y : Int) (hy : inr y = true) (w : World) :
    Calls Try.prog 30 #[.int .i64 13, .int .i64 y] w fun e w' => e = .returned (.tuple #[.int .i64 (cut (y + 1)), .int .i64 (ovr (y + 1))]) ∧ w' = w := by
  go_enter Try.func30, Try.ntmps30
  go_wp2_with (first | (go_at_call 70; refine (rSum _ _ (by first | assumption | rfl) (by first | assumption | rfl) _).mono ?_; rintro e w' ⟨rfl, rfl⟩) | go_in)
  go_ret2
  exact ⟨rfl, rfl⟩
set_option maxRecDepth 20000 in
theorem rMonad14 (y : Int) (hy : inr y = true) (w : World) :
    Calls Try.prog 30 #[.int .i64 14, .int .i64 y] w fun e w' => e = .returned (.tuple #[.int .i64 (0), .int .i64 (16)]) ∧ w' = w := by
  go_enter Try.func30, Try.ntmps30
  go_wp2
  go_ret2
  exact ⟨rfl, rfl⟩
set_option maxRecDepth 20000 in
theorem rMonad15 (y : Int) (hy : inr y = true) (w : World) :
    Calls Try.prog 30 #[.int .i64 15, .int .i64 y] w fun e w' => e = .returned (.tuple #[.int .i64 (0), .int .i64 (16)]) ∧ w' = w := by
  go_enter Try.func30, Try.ntmps30
  go_wp2
  go_ret2
  exact ⟨rfl, rfl⟩
set_option maxRecDepth 20000 in
theorem rMonad16 (y : Int) (hy : inr y = true) (w : World) :
    Calls Try.prog 30 #[.int .i64 16, .int .i64 y] w fun e w' => e = .returned (.tuple #[.int .i64 (cut (y + y)), .int .i64 (ovr (y + y))]) ∧ w' = w := by
  go_enter Try.func30, Try.ntmps30
  go_wp2_with (first | (go_at_call 70; refine (rSum _ _ (by first | assumption | rfl) (by first | assumption | rfl) _).mono ?_; rintro e w' ⟨rfl, rfl⟩) | go_in)
  go_ret2
  exact ⟨rfl, rfl⟩
set_option maxRecDepth 20000 in
theorem rMonad17 (y : Int) (hy : inr y = true) (w : World) :
    Calls Try.prog 30 #[.int .i64 17, .int .i64 y] w fun e w' => e = .returned (.tuple #[.int .i64 (cut (y * y)), .int .i64 (ovr (y * y))]) ∧ w' = w := by
  go_enter Try.func30, Try.ntmps30
  go_wp2_with (first | (go_at_call 71; refine (rTimes _ _ (by assumption) (by assumption) _).mono ?_; rintro e w' ⟨rfl, rfl⟩) | go_in)
  go_ret2
  exact ⟨rfl, rfl⟩
set_option maxRecDepth 20000 in
theorem rMonad18 (y : Int) (hy : inr y = true) (w : World) :
    Calls Try.prog 30 #[.int .i64 18, .int .i64 y] w fun e w' => e = .returned (.tuple #[.int .i64 (cut (1 - y)), .int .i64 (ovr (1 - y))]) ∧ w' = w := by
  go_enter Try.func30, Try.ntmps30
  go_wp2_with (first | (go_at_call 67; refine (rLess _ _ (by first | assumption | rfl) (by first | assumption | rfl) _).mono ?_; rintro e w' ⟨rfl, rfl⟩) | go_in)
  go_ret2
  exact ⟨rfl, rfl⟩
set_option maxRecDepth 20000 in
theorem rMonad20 (y : Int) (hy : inr y = true) (w : World) :
    Calls Try.prog 30 #[.int .i64 20, .int .i64 y] w fun e w' => e = .returned (.tuple #[.int .i64 (0), .int .i64 (16)]) ∧ w' = w := by
  go_enter Try.func30, Try.ntmps30
  go_wp2
  go_ret2
  exact ⟨rfl, rfl⟩
set_option maxRecDepth 20000 in
theorem rMonad21 (y : Int) (hy : inr y = true) (w : World) :
    Calls Try.prog 30 #[.int .i64 21, .int .i64 y] w fun e w' => e = .returned (.tuple #[.int .i64 (factN y), .int .i64 (factE y)]) ∧ w' = w := by
  go_enter Try.func30, Try.ntmps30
  go_wp2_with (first | (go_at_call 72; refine (rFactorial _ (by assumption) _).mono ?_; rintro e w' ⟨rfl, rfl⟩) | go_in)
  go_ret2
  exact ⟨rfl, rfl⟩
set_option maxRecDepth 20000 in
theorem rMonad3 (y : Int) (hy : inr y = true) (w : World) :
    Calls Try.prog 30 #[.int .i64 3, .int .i64 y] w fun e w' => e = .returned (.tuple #[.int .i64 (sg y), .int .i64 (0)]) ∧ w' = w := by
  rcases (show y < 0 ∨ y = 0 ∨ 0 < y by omega) with h | h | h
  · have e : sg y = -1 := by unfold sg; rw [if_pos h]
    rw [e]
    go_enter Try.func30, Try.ntmps30
    go_wp2
    go_ret2
    exact ⟨rfl, rfl⟩
  · subst h
    go_enter Try.func30, Try.ntmps30
    go_wp2
    go_ret2
    exact ⟨rfl, rfl⟩
  · have e : sg y = 1 := by unfold sg; rw [if_neg (by omega), if_pos h]
    rw [e]
    go_enter Try.func30, Try.ntmps30
    go_wp2
    go_ret2
    exact ⟨rfl, rfl⟩
set_option maxRecDepth 20000 in
theorem rMonad19 (y : Int) (hy : inr y = true) (w : World) :
    Calls Try.prog 30 #[.int .i64 19, .int .i64 y] w fun e w' => e = .returned (.tuple #[.int .i64 (halfN y), .int .i64 (halfE y)]) ∧ w' = w := by
  rw [inr_iff] at hy
  by_cases c : y % 2 = 0
  · have t : (y.tmod 2 != 0) = false := by rw [Int.tmod_eq_zero_of_dvd (Int.dvd_of_emod_eq_zero c)]; rfl
    have e : halfN y = y / 2 := by unfold halfN; rw [if_pos c]
    have e2 : halfE y = 0 := by unfold halfE; rw [if_pos c]
    have hq : Hid (y.tdiv 2 = y / 2) := by
      have h := Int.mul_tdiv_add_tmod y 2
      rw [Int.tmod_eq_zero_of_dvd (Int.dvd_of_emod_eq_zero c)] at h
      show _ = _
      omega
    rw [e, e2]
    clear e e2
    go_enter Try.func30, Try.ntmps30
    go_wp2
    go_ret2
    exact ⟨ret_two (by first | exact hq.out | (rw [hq.out]; exact wrap_id (by omega))) rfl, rfl⟩
  · have t : (y.tmod 2 != 0) = true := by
      have c2 : y.tmod 2 ≠ 0 := fun z => c (Int.emod_eq_zero_of_dvd (Int.dvd_of_tmod_eq_zero z))
      simp [c2]
    have e : halfN y = 0 := by unfold halfN; rw [if_neg c]
    have e2 : halfE y = 10 := by unfold halfE; rw [if_neg c]
    rw [e, e2]
    clear e e2
    go_enter Try.func30, Try.ntmps30
    go_wp2
    go_ret2
    exact ⟨rfl, rfl⟩
set_option maxRecDepth 20000 in
theorem rDyad1 (x y : Int) (hx : inr x = true) (hy : inr y = true) (w : World) :
    Calls Try.prog 33 #[.int .i64 1, .int .i64 x, .int .i64 y] w fun e w' => e = .returned (.tuple #[.int .i64 (cut (x + y)), .int .i64 (ovr (x + y))]) ∧ w' = w := by
  go_enter Try.func33, Try.ntmps33
  go_wp2_with (first | (go_at_call 70; refine (rSum _ _ (by first | assumption | rfl) (by first | assumption | rfl) _).mono ?_; rintro e w' ⟨rfl, rfl⟩) | go_in)
  go_ret2
  exact ⟨rfl, rfl⟩
set_option maxRecDepth 20000 in
theorem rDyad2 (x y : Int) (hx : inr x = true) (hy : inr y = true) (w : World) :
    Calls Try.prog 33 #[.int .i64 2, .int .i64 x, .int .i64 y] w fun e w' => e = .returned (.tuple #[.int .i64 (cut (x - y)), .int .i64 (ovr (x - y))]) ∧ w' = w := by
  go_enter Try.func33, Try.ntmps33
  go_wp2_with (first | (go_at_call 67; refine (rLess _ _ (by first | assumption | rfl) (by first | assumption | rfl) _).mono ?_; rintro e w' ⟨rfl, rfl⟩) | go_in)
  go_ret2
  exact ⟨rfl, rfl⟩
set_option maxRecDepth 20000 in
theorem rDyad3 (x y : Int) (hx : inr x = true) (hy : inr y = true) (w : World) :
    Calls Try.prog 33 #[.int .i64 3, .int .i64 x, .int .i64 y] w fun e w' => e = .returned (.tuple #[.int .i64 (cut (x * y)), .int .i64 (ovr (x * y))]) ∧ w' = w := by
  go_enter Try.func33, Try.ntmps33
  go_wp2_with (first | (go_at_call 71; refine (rTimes _ _ (by assumption) (by assumption) _).mono ?_; rintro e w' ⟨rfl, rfl⟩) | go_in)
  go_ret2
  exact ⟨rfl, rfl⟩
set_option maxRecDepth 20000 in
theorem rDyad4 (x y : Int) (hx : inr x = true) (hy : inr y = true) (w : World) :
    Calls Try.prog 33 #[.int .i64 4, .int .i64 x, .int .i64 y] w fun e w' => e = .returned (.tuple #[.int .i64 (divN x y), .int .i64 (divE x y)]) ∧ w' = w := by
  go_enter Try.func33, Try.ntmps33
  go_wp2_with (first | (go_at_call 74; refine (rDivided _ _ (by assumption) (by assumption) _).mono ?_; rintro e w' ⟨rfl, rfl⟩) | go_in)
  go_ret2
  exact ⟨rfl, rfl⟩
set_option maxRecDepth 20000 in
theorem rDyad5 (x y : Int) (hx : inr x = true) (hy : inr y = true) (w : World) :
    Calls Try.prog 33 #[.int .i64 5, .int .i64 x, .int .i64 y] w fun e w' => e = .returned (.tuple #[.int .i64 (y.fmod x), .int .i64 (0)]) ∧ w' = w := by
  go_enter Try.func33, Try.ntmps33
  go_wp2_with (first | (go_at_call 75; refine (rResidue _ _ (by assumption) (by assumption) _).mono ?_; rintro e w' ⟨rfl, rfl⟩) | go_in)
  go_ret2
  exact ⟨rfl, rfl⟩
set_option maxRecDepth 20000 in
theorem rDyad8 (x y : Int) (hx : inr x = true) (hy : inr y = true) (w : World) :
    Calls Try.prog 33 #[.int .i64 8, .int .i64 x, .int .i64 y] w fun e w' => e = .returned (.tuple #[.int .i64 (tr (decide (x < y))), .int .i64 (0)]) ∧ w' = w := by
  go_enter Try.func33, Try.ntmps33
  go_wp2_with (first | (go_at_call 73; refine (rTruth _ _).mono ?_; rintro e w' ⟨rfl, rfl⟩) | go_in)
  go_ret2
  exact ⟨rfl, rfl⟩
set_option maxRecDepth 20000 in
theorem rDyad9 (x y : Int) (hx : inr x = true) (hy : inr y = true) (w : World) :
    Calls Try.prog 33 #[.int .i64 9, .int .i64 x, .int .i64 y] w fun e w' => e = .returned (.tuple #[.int .i64 (tr (decide (y < x))), .int .i64 (0)]) ∧ w' = w := by
  go_enter Try.func33, Try.ntmps33
  go_wp2_with (first | (go_at_call 73; refine (rTruth _ _).mono ?_; rintro e w' ⟨rfl, rfl⟩) | go_in)
  go_ret2
  exact ⟨rfl, rfl⟩
set_option maxRecDepth 20000 in
theorem rDyad10 (x y : Int) (hx : inr x = true) (hy : inr y = true) (w : World) :
    Calls Try.prog 33 #[.int .i64 10, .int .i64 x, .int .i64 y] w fun e w' => e = .returned (.tuple #[.int .i64 (tr (x == y)), .int .i64 (0)]) ∧ w' = w := by
  go_enter Try.func33, Try.ntmps33
  go_wp2_with (first | (go_at_call 73; refine (rTruth _ _).mono ?_; rintro e w' ⟨rfl, rfl⟩) | go_in)
  go_ret2
  exact ⟨rfl, rfl⟩
set_option maxRecDepth 20000 in
theorem rDyad11 (x y : Int) (hx : inr x = true) (hy : inr y = true) (w : World) :
    Calls Try.prog 33 #[.int .i64 11, .int .i64 x, .int .i64 y] w fun e w' => e = .returned (.tuple #[.int .i64 (tr (x != y)), .int .i64 (0)]) ∧ w' = w := by
  go_enter Try.func33, Try.ntmps33
  go_wp2_with (first | (go_at_call 73; refine (rTruth _ _).mono ?_; rintro e w' ⟨rfl, rfl⟩) | go_in)
  go_ret2
  exact ⟨rfl, rfl⟩
set_option maxRecDepth 20000 in
theorem rDyad12 (x y : Int) (hx : inr x = true) (hy : inr y = true) (w : World) :
    Calls Try.prog 33 #[.int .i64 12, .int .i64 x, .int .i64 y] w fun e w' => e = .returned (.tuple #[.int .i64 (tr (decide (x ≤ y))), .int .i64 (0)]) ∧ w' = w := by
  go_enter Try.func33, Try.ntmps33
  go_wp2_with (first | (go_at_call 73; refine (rTruth _ _).mono ?_; rintro e w' ⟨rfl, rfl⟩) | go_in)
  go_ret2
  exact ⟨rfl, rfl⟩
set_option maxRecDepth 20000 in
theorem rDyad13 (x y : Int) (hx : inr x = true) (hy : inr y = true) (w : World) :
    Calls Try.prog 33 #[.int .i64 13, .int .i64 x, .int .i64 y] w fun e w' => e = .returned (.tuple #[.int .i64 (tr (decide (y ≤ x))), .int .i64 (0)]) ∧ w' = w := by
  go_enter Try.func33, Try.ntmps33
  go_wp2_with (first | (go_at_call 73; refine (rTruth _ _).mono ?_; rintro e w' ⟨rfl, rfl⟩) | go_in)
  go_ret2
  exact ⟨rfl, rfl⟩
set_option maxRecDepth 20000 in
theorem rDyad14 (x y : Int) (hx : inr x = true) (hy : inr y = true) (w : World) :
    Calls Try.prog 33 #[.int .i64 14, .int .i64 x, .int .i64 y] w fun e w' => e = .returned (.tuple #[.int .i64 (cut ((Nat.gcd x.natAbs y.natAbs : Nat))), .int .i64 (ovr ((Nat.gcd x.natAbs y.natAbs : Nat)))]) ∧ ∃ n, w' = w.drewN n := by
  have hbx := inr_iff.1 hx
  have hby := inr_iff.1 hy
  have hzx : x.natAbs < 18446744073709551616 := by omega
  have hzy : y.natAbs < 18446744073709551616 := by omega
  have hzg := gcd_small hzx hzy
  clear hbx hby
  go_enter Try.func33, Try.ntmps33
  go_wp2_with (first | (go_at_call 69; refine (rSize _ (by assumption) _).mono ?_; rintro e w' ⟨rfl, rfl⟩) | (go_at_call 76; refine (rCommon _ _ (by assumption) (by assumption) _).mono ?_; rintro e w' ⟨rfl, n, rfl⟩) | (go_at_call 68; refine (rSigned _ _ (by assumption) _).mono ?_; rintro e w' ⟨rfl, rfl⟩) | go_in)
  go_ret2
  exact ⟨rfl, _, rfl⟩
set_option maxRecDepth 20000 in
theorem rDyad18 (x y : Int) (hx : inr x = true) (hy : inr y = true) (w : World) :
    Calls Try.prog 33 #[.int .i64 18, .int .i64 x, .int .i64 y] w fun e w' => e = .returned (.tuple #[.int .i64 (0), .int .i64 (16)]) ∧ w' = w := by
  go_enter Try.func33, Try.ntmps33
  go_wp2
  go_ret2
  exact ⟨rfl, rfl⟩
set_option maxRecDepth 20000 in
theorem rDyad19 (x y : Int) (hx : inr x = true) (hy : inr y = true) (w : World) :
    Calls Try.prog 33 #[.int .i64 19, .int .i64 x, .int .i64 y] w fun e w' => e = .returned (.tuple #[.int .i64 (0), .int .i64 (16)]) ∧ w' = w := by
  go_enter Try.func33, Try.ntmps33
  go_wp2
  go_ret2
  exact ⟨rfl, rfl⟩
set_option maxRecDepth 20000 in
theorem rDyad20 (x y : Int) (hx : inr x = true) (hy : inr y = true) (w : World) :
    Calls Try.prog 33 #[.int .i64 20, .int .i64 x, .int .i64 y] w fun e w' => e = .returned (.tuple #[.int .i64 (powN x y), .int .i64 (powE x y)]) ∧ w' = w := by
  go_enter Try.func33, Try.ntmps33
  go_wp2_with (first | (go_at_call 79; refine (rPower _ _ (by assumption) (by assumption) _).mono ?_; rintro e w' ⟨rfl, rfl⟩) | go_in)
  go_ret2
  exact ⟨rfl, rfl⟩
set_option maxRecDepth 20000 in
theorem rDyad21 (x y : Int) (hx : inr x = true) (hy : inr y = true) (w : World) :
    Calls Try.prog 33 #[.int .i64 21, .int .i64 x, .int .i64 y] w fun e w' => e = .returned (.tuple #[.int .i64 (chooseN x y), .int .i64 (chooseE x y)]) ∧ ∃ n, w' = w.drewN n := by
  go_enter Try.func33, Try.ntmps33
  go_wp2_with (first | (go_at_call 80; refine (rWays _ _ (by assumption) (by assumption) _).mono ?_; rintro e w' ⟨rfl, n, rfl⟩) | go_in)
  go_ret2
  exact ⟨rfl, _, rfl⟩
set_option maxRecDepth 20000 in
theorem rDyad6 (x y : Int) (hx : inr x = true) (hy : inr y = true) (w : World) :
    Calls Try.prog 33 #[.int .i64 6, .int .i64 x, .int .i64 y] w fun e w' => e = .returned (.tuple #[.int .i64 (min x y), .int .i64 (0)]) ∧ w' = w := by
  by_cases h : x < y
  · have d : decide (x < y) = true := by simpa using h
    go_enter Try.func33, Try.ntmps33
    go_wp2
    go_ret2
    exact ⟨ret_two (by omega) rfl, rfl⟩
  · have d : decide (x < y) = false := by simpa using h
    go_enter Try.func33, Try.ntmps33
    go_wp2
    go_ret2
    exact ⟨ret_two (by omega) rfl, rfl⟩
set_option maxRecDepth 20000 in
theorem rDyad7 (x y : Int) (hx : inr x = true) (hy : inr y = true) (w : World) :
    Calls Try.prog 33 #[.int .i64 7, .int .i64 x, .int .i64 y] w fun e w' => e = .returned (.tuple #[.int .i64 (max x y), .int .i64 (0)]) ∧ w' = w := by
  by_cases h : x < y
  · have d : decide (x < y) = true := by simpa using h
    go_enter Try.func33, Try.ntmps33
    go_wp2
    go_ret2
    exact ⟨ret_two (by omega) rfl, rfl⟩
  · have d : decide (x < y) = false := by simpa using h
    go_enter Try.func33, Try.ntmps33
    go_wp2
    go_ret2
    exact ⟨ret_two (by omega) rfl, rfl⟩
end Go.Proofs.Ytpkednlfhdpdhaa.Nm
