
/- Contracts of package num's power and repeated. -/

import Derived.Test.YthncgocjegalhaaNSmall

import Derived.Test.YthncgocjegalhaaNMath3

namespace Go.Proofs.Ythncgocjegalhaa.Nm

open Go.RowKit

set_option linter.unusedVariables false

theorem repeated_any (x y : Int) (hx : inr x = true) (h2 : 2 ≤ x.natAbs) (hy0 : 0 ≤ y) (hy : y ≤ 63) (w : World) :
    Calls Try.prog 78 #[.int .i64 x, .int .i64 y] w fun e w' => e = .returned (.tuple #[.int .i64 (cut (x ^ y.toNat)), .int .i64 (ovr (x ^ y.toNat))]) ∧ w' = w := by
  go_enter Try.func78, Try.ntmps78
  go_wp2
  go_loop [6, 10] (fun p i => ∃ k : Nat, k ≤ y.toNat ∧ i = .int .i64 (k : Nat) ∧ p = .int .i64 (x ^ k) ∧ inr (x ^ k) = true) (fun _ i => (64 - intOf i).toNat)
  case atStart => exact ⟨0, by omega, rfl, by rw [Int.pow_zero], by rw [Int.pow_zero]; rfl⟩
  case round =>
    obtain ⟨k, hk, rfl, rfl, hp⟩ := hrel
    by_cases hlt : (k : Int) < y
    · have hm : Hid (x ^ (k + 1) = x ^ k * x) := Int.pow_succ x k
      have hmul := fun w => mul64 (x ^ k) x hp hx w
      cases hi : inr (x ^ k * x)
      · have ho : Hid (inr (x ^ y.toNat) = false) := pow_over h2 (k := k + 1) (by rw [hm.out]; exact hi) (by omega)
        rw [hi, cut_no hi] at hmul
        clear hi
        go_wp2_with (go_at_call 64; refine (hmul _).mono ?_; rintro e w' ⟨rfl, rfl⟩)
        go_ret2
        exact ⟨ret_two (cut_no ho.out).symm (ovr_no ho.out).symm, rfl⟩
      · rw [hi, cut_yes hi] at hmul
        have hi' : Hid (inr (x ^ (k + 1)) = true) := by show _ = _; rw [hm.out]; exact hi
        clear hi
        go_wp2_with (go_at_call 64; refine (hmul _).mono ?_; rintro e w' ⟨rfl, rfl⟩)
        go_round
        case rel => exact ⟨k + 1, by omega, by go_num, by rw [hm.out], hi'.out⟩
        case measure => simp [intOf]; omega
    · have e : k = y.toNat := by omega
      subst e
      go_wp2
      go_ret2
      exact ⟨ret_two (cut_yes hp).symm (ovr_yes hp).symm, rfl⟩

theorem power_any (x y : Int) (hx : inr x = true) (hy : inr y = true) (w : World) :
    Calls Try.prog 74 #[.int .i64 x, .int .i64 y] w fun e w' => e = .returned (.tuple #[.int .i64 (powN x y), .int .i64 (powE x y)]) ∧ w' = w := by
  have hx' := hx
  rw [inr_iff] at hx hy
  by_cases c1 : x = 1
  · subst c1
    rw [powN_one, powE_one]
    go_enter Try.func74, Try.ntmps74
    go_wp2
    go_ret2
    exact ⟨rfl, rfl⟩
  by_cases c2 : x = -1
  · subst c2
    rw [powN_minus, powE_minus]
    have bt := tr_bd (y % 2 != 0)
    go_enter Try.func74, Try.ntmps74
    go_wp2_with (first | (go_at_call 76; refine (odd_any _ _).mono ?_; rintro e w' ⟨rfl, rfl⟩) | (go_at_call 69; refine (truth_any _ _).mono ?_; rintro e w' ⟨rfl, rfl⟩))
    go_ret2
    exact ⟨rfl, rfl⟩
  have b1 : (x == 1) = false := by simp [c1]
  have b2 : (x == -1) = false := by simp [c2]
  by_cases c3 : y < 0
  · have e : powN x y = 0 := by unfold powN; rw [if_neg (by omega), if_neg c1, if_neg c2]
    have e2 : powE x y = 10 := by unfold powE; rw [if_neg (by omega), if_neg (by omega)]
    rw [e, e2]
    go_enter Try.func74, Try.ntmps74
    go_wp2
    go_ret2
    exact ⟨rfl, rfl⟩
  by_cases c4 : x = 0
  · subst c4
    rw [powN_zero y (by omega), powE_zero y (by omega)]
    go_enter Try.func74, Try.ntmps74
    go_wp2_with (go_at_call 69; refine (truth_any _ _).mono ?_; rintro e w' ⟨rfl, rfl⟩)
    go_ret2
    exact ⟨rfl, rfl⟩
  have b4 : (x == 0) = false := by simp [c4]
  have e : powN x y = cut (x ^ y.toNat) := by unfold powN; rw [if_pos (by omega)]
  have e2 : powE x y = ovr (x ^ y.toNat) := by unfold powE; rw [if_pos (by omega)]
  rw [e, e2]
  clear e e2
  by_cases c5 : 63 < y
  · have hg := pow_great (x := x) (n := y.toNat) (by omega) (by omega)
    rw [cut_no hg, ovr_no hg]
    clear hg
    go_enter Try.func74, Try.ntmps74
    go_wp2
    go_ret2
    exact ⟨rfl, rfl⟩
  · have hr := fun w => repeated_any x y hx' (by omega) (by omega) (by omega) w
    go_enter Try.func74, Try.ntmps74
    go_wp2_with (go_at_call 78; refine (hr _).mono ?_; rintro e w' ⟨rfl, rfl⟩)
    go_ret2
    exact ⟨rfl, rfl⟩
end Go.Proofs.Ythncgocjegalhaa.Nm
