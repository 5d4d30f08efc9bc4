
/- Plain arithmetic for package num: powers. -/

import Derived.Test.YthncgocjegalhaaNSmall

namespace Go.Proofs.Ythncgocjegalhaa.Nm

open Go.RowKit

set_option linter.unusedVariables false

def powN (x y : Int) : Int := if 0 ≤ y then cut (x ^ y.toNat) else if x = 1 then 1 else if x = -1 then (if y % 2 = 0 then 1 else -1) else 0
def powE (x y : Int) : Int := if 0 ≤ y then ovr (x ^ y.toNat) else if x = 1 ∨ x = -1 then 0 else 10
def chooseN (x y : Int) : Int := if y < 0 ∨ x < 0 ∨ y < x then 0 else cut (binom y.toNat x.toNat)
def chooseE (x y : Int) : Int := if y < 0 then 10 else if x < 0 ∨ y < x then 0 else ovr (binom y.toNat x.toNat)

theorem tr_bd (b : Bool) : 0 ≤ tr b ∧ tr b ≤ 1 := by cases b <;> decide
theorem minus_pow (n : Nat) : (-1 : Int) ^ n = if n % 2 = 0 then 1 else -1 := by
  induction n with
  | zero => rfl
  | succ n ih =>
    rw [Int.pow_succ, ih]
    by_cases h : n % 2 = 0
    · rw [if_pos h, if_neg (by omega)]; rfl
    · rw [if_neg h, if_pos (by omega)]; rfl
theorem one_pow' (n : Nat) : (1 : Int) ^ n = 1 := Int.one_pow
theorem zero_pow' (n : Nat) : (0 : Int) ^ n = tr (n == 0) := by
  cases n with
  | zero => rfl
  | succ n => rw [Int.pow_succ, Int.mul_zero]; rfl
/-- Sizes only grow. -/
theorem pow_size {x : Int} {a b : Nat} (hx : 2 ≤ x.natAbs) (h : a ≤ b) : (x ^ a).natAbs * 2 ^ (b - a) ≤ (x ^ b).natAbs := by
  rw [Int.natAbs_pow, Int.natAbs_pow]
  have e : x.natAbs ^ b = x.natAbs ^ a * x.natAbs ^ (b - a) := by rw [← Nat.pow_add]; congr 1; omega
  rw [e]
  exact Nat.mul_le_mul_left _ (Nat.pow_le_pow_left hx _)
theorem pow_great {x : Int} {n : Nat} (hx : 2 ≤ x.natAbs) (h : 63 < n) : inr (x ^ n) = false := by
  rw [inr_no]
  have h1 := pow_size (a := 0) (b := n) hx (Nat.zero_le _)
  have h2 : 2 ^ 64 ≤ 2 ^ (n - 0) := Nat.pow_le_pow_right (by omega) (by omega)
  have e : (x ^ 0).natAbs = 1 := by rw [Int.pow_zero]; rfl
  rw [e, Nat.one_mul] at h1
  have h3 : (18446744073709551616 : Nat) ≤ (x ^ n).natAbs := Nat.le_trans h2 h1
  omega
theorem pow_over {x : Int} {k n : Nat} (hx : 2 ≤ x.natAbs) (h : inr (x ^ k) = false) (hk : k ≤ n) : inr (x ^ n) = false := by
  rcases Nat.eq_or_lt_of_le hk with e | e
  · rw [← e]; exact h
  · rw [inr_no] at h ⊢
    have h1 := pow_size hx hk
    have h2 : 2 ^ 1 ≤ 2 ^ (n - k) := Nat.pow_le_pow_right (by omega) (by omega)
    have h3 := Nat.mul_le_mul_left (x ^ k).natAbs h2
    omega

theorem powN_one (y : Int) : powN 1 y = 1 := by
  unfold powN
  split
  · rw [one_pow']; rfl
  · rfl
theorem powE_one (y : Int) : powE 1 y = 0 := by
  unfold powE
  split
  · rw [one_pow']; rfl
  · rfl
theorem powN_minus (y : Int) : powN (-1) y = 1 - 2 * tr (y % 2 != 0) := by
  unfold powN
  by_cases h : y % 2 = 0
  · have e : tr (y % 2 != 0) = 0 := by simp [h, tr]
    rw [e]
    split
    · rw [minus_pow, if_pos (by omega)]; rfl
    · simp
  · have e : tr (y % 2 != 0) = 1 := by simp [h, tr]
    rw [e]
    split
    · rw [minus_pow, if_neg (by omega)]; rfl
    · simp
theorem powE_minus (y : Int) : powE (-1) y = 0 := by
  unfold powE
  split
  · rw [minus_pow]; split <;> rfl
  · rfl
theorem powN_zero (y : Int) (h : 0 ≤ y) : powN 0 y = tr (y == 0) := by
  unfold powN
  rw [if_pos h, zero_pow']
  by_cases c : y = 0
  · subst c; rfl
  · have e1 : (y.toNat == 0) = false := by simp; omega
    have e2 : (y == 0) = false := by simp; omega
    rw [e1, e2]; rfl
theorem powE_zero (y : Int) (h : 0 ≤ y) : powE 0 y = 0 := by
  unfold powE
  rw [if_pos h, zero_pow', ovr_yes]
  cases (y.toNat == 0) <;> rfl
end Go.Proofs.Ythncgocjegalhaa.Nm
