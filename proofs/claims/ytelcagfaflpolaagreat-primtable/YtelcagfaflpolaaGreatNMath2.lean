
/- Plain arithmetic for package num, continued: factorials, ways to choose, powers, and each row of the table as two functions, the number told and the error told. -/

import Derived.Test.YtelcagfaflpolaaGreatNMath

namespace Go.Proofs.YtelcagfaflpolaaGreat.Nm

open Go.RowKit

set_option linter.unusedVariables false

/-! ### truth, sign -/

def tr (b : Bool) : Int := if b = true then 1 else 0
def sg (n : Int) : Int := if n < 0 then -1 else if 0 < n then 1 else 0

/-! ### factorials -/

def fact : Nat → Nat
  | 0 => 1
  | n + 1 => (n + 1) * fact n
theorem fact_mono {a b : Nat} (h : a ≤ b) : fact a ≤ fact b := by
  induction b with
  | zero => have : a = 0 := by omega
            subst this; exact Nat.le_refl _
  | succ n ih =>
    rcases Nat.lt_or_ge n a with h1 | h1
    · have : a = n + 1 := by omega
      subst this; exact Nat.le_refl _
    · have := ih h1
      have e : fact (n + 1) = n * fact n + fact n := by show (n + 1) * fact n = _; rw [Nat.add_mul, Nat.one_mul]
      omega
theorem fact20 : fact 20 = 2432902008176640000 := by decide
theorem fact21 : fact 21 = 51090942171709440000 := by decide
theorem fact_small {n : Nat} (h : n ≤ 20) : inr (fact n) = true := by
  rw [inr_iff]; have := fact_mono h; rw [fact20] at this; omega
theorem fact_great {n : Nat} (h : 20 < n) : inr (fact n) = false := by
  rw [inr_no]; have := fact_mono (a := 21) h; rw [fact21] at this; omega

/-! ### ways to choose -/

def binom : Nat → Nat → Nat
  | _, 0 => 1
  | 0, _ + 1 => 0
  | n + 1, k + 1 => binom n k + binom n (k + 1)
theorem binom_zero (n : Nat) : binom n 0 = 1 := by cases n <;> rfl
theorem binom_step (n k : Nat) : binom (n + 1) (k + 1) = binom n k + binom n (k + 1) := rfl
theorem binom_over {n k : Nat} (h : n < k) : binom n k = 0 := by
  induction n generalizing k with
  | zero => cases k with
    | zero => omega
    | succ k => rfl
  | succ n ih => cases k with
    | zero => omega
    | succ k => rw [binom_step, ih (by omega), ih (by omega)]
theorem binom_self (n : Nat) : binom n n = 1 := by
  induction n with
  | zero => rfl
  | succ n ih => rw [binom_step, ih, binom_over (by omega)]
/-- i of n times i is i - 1 of n - 1 times n. -/
theorem binom_mul (n k : Nat) : binom (n + 1) (k + 1) * (k + 1) = binom n k * (n + 1) := by
  induction n generalizing k with
  | zero => cases k with
    | zero => rfl
    | succ k => rw [binom_over (by omega), binom_over (by omega)]; omega
  | succ n ih => cases k with
    | zero =>
      have h := ih 0
      rw [binom_step, binom_zero, Nat.add_mul, h, binom_zero]; omega
    | succ k =>
      have h1 := ih k
      have h2 := ih (k + 1)
      have e3 := binom_step n k
      rw [binom_step (n + 1) (k + 1), Nat.add_mul, h2]
      have h4 : binom (n + 1) (k + 1) * (k + 1 + 1) = binom (n + 1) (k + 1) * (k + 1) + binom (n + 1) (k + 1) := by rw [Nat.mul_add, Nat.mul_one]
      rw [h4, h1, e3]
      have h5 : (binom n k + binom n (k + 1)) * (n + 1 + 1) = binom n k * (n + 1) + binom n (k + 1) * (n + 1) + (binom n k + binom n (k + 1)) := by rw [Nat.mul_add _ (n + 1) 1, Nat.add_mul, Nat.mul_one]
      omega
theorem binom_sym {n k : Nat} (h : k ≤ n) : binom n k = binom n (n - k) := by
  induction n generalizing k with
  | zero => have : k = 0 := by omega
            subst this; rfl
  | succ n ih => cases k with
    | zero => rw [binom_zero, Nat.sub_zero, binom_self]
    | succ k =>
      rcases Nat.lt_or_ge k n with h1 | h1
      · have e : n + 1 - (k + 1) = (n - k - 1) + 1 := by omega
        rw [e, binom_step, binom_step, ih (k := k) (by omega), ih (k := k + 1) (by omega)]
        have e2 : n - k - 1 + 1 = n - k := by omega
        have e3 : n - (k + 1) = n - k - 1 := by omega
        rw [e2, e3]; omega
      · have : k = n := by omega
        subst this
        rw [binom_self, Nat.sub_self, binom_zero]
/-- More of more things: never fewer ways. -/
theorem binom_up (m : Nat) {i j : Nat} (h : i ≤ j) : binom (m + i) i ≤ binom (m + j) j := by
  induction j with
  | zero => have : i = 0 := by omega
            subst this; exact Nat.le_refl _
  | succ j ih =>
    rcases Nat.lt_or_ge j i with h1 | h1
    · have : i = j + 1 := by omega
      subst this; exact Nat.le_refl _
    · have := ih h1
      rw [show m + (j + 1) = (m + j) + 1 by omega, binom_step]; omega
theorem binom_wide {a b : Nat} (k : Nat) (h : a ≤ b) : binom a k ≤ binom b k := by
  induction b with
  | zero => have : a = 0 := by omega
            subst this; exact Nat.le_refl _
  | succ b ih =>
    rcases Nat.lt_or_ge b a with h1 | h1
    · have : a = b + 1 := by omega
      subst this; exact Nat.le_refl _
    · have := ih h1
      cases k with
      | zero => rw [binom_zero, binom_zero]; exact Nat.le_refl _
      | succ k => rw [binom_step]; omega
/-- The product from above, for one great number. -/
def falls : Nat → Nat → Nat
  | _, 0 => 1
  | n, k + 1 => n * falls (n - 1) k
theorem binom_falls (n k : Nat) : binom n k * fact k = falls n k := by
  induction k generalizing n with
  | zero => rw [binom_zero]; rfl
  | succ k ih => cases n with
    | zero => rw [binom_over (by omega)]; simp [falls]
    | succ n =>
      show binom (n + 1) (k + 1) * ((k + 1) * fact k) = (n + 1) * falls n k
      rw [← Nat.mul_assoc, binom_mul, ← ih n, Nat.mul_right_comm, Nat.mul_comm]
theorem binom68 : binom 68 34 = 28453041475240576740 := by
  have h := binom_falls 68 34
  have e1 : fact 34 = 295232799039604140847618609643520000000 := by decide
  have e3 : falls 68 34 = 28453041475240576740 * 295232799039604140847618609643520000000 := by decide
  rw [e1, e3] at h
  exact Nat.eq_of_mul_eq_mul_right (by decide) h
theorem binom_great {n k : Nat} (h : 33 < k) (h2 : k + k ≤ n) : inr (binom n k) = false := by
  rw [inr_no]
  have a := binom_wide k h2
  have b := binom_up k (i := 34) (j := k) h
  have c := binom_wide (a := 68) (b := k + 34) 34 (by omega)
  rw [binom68] at c
  omega

/-! ### the rows that need more than 'cut' and 'ovr' -/

def divN (x y : Int) : Int := if y = 0 then 0 else cut (x.fdiv y)
def divE (x y : Int) : Int := if y = 0 then 10 else ovr (x.fdiv y)
def halfN (y : Int) : Int := if y % 2 = 0 then y / 2 else 0
def halfE (y : Int) : Int := if y % 2 = 0 then 0 else 10
def factN (y : Int) : Int := if y < 0 then 0 else cut (fact y.toNat)
def factE (y : Int) : Int := if y < 0 then 10 else ovr (fact y.toNat)
def isT (n : Int) : Bool := n == 0 || n == 1
def bitB (x y : Int) : Bool := isT x && isT y
def norN (x y : Int) : Int := if bitB x y = true then tr (x == 0 && y == 0) else 0
def nandN (x y : Int) : Int := if bitB x y = true then tr (x == 0 || y == 0) else 0
def bitE (x y : Int) : Int := if bitB x y = true then 0 else 10
end Go.Proofs.YtelcagfaflpolaaGreat.Nm
