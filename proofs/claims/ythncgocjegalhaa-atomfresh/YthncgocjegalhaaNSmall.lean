
/- Contracts of package num's small functions: truth, sign, odd, half, checked, size, unsigned, isTruth, nor, nand, quotient, residue, factorial. -/

import Derived.WalkKit

import Derived.Test.YthncgocjegalhaaProg

import Derived.WalkLawsBesides

namespace Go.Proofs.Ythncgocjegalhaa.Nm

open Go.RowKit

set_option linter.unusedVariables false

/-- Is a number one of 64 bits with a sign? -/
def inr (n : Int) : Bool := decide (-9223372036854775808 ≤ n ∧ n ≤ 9223372036854775807)
theorem inr_iff {n : Int} : inr n = true ↔ (-9223372036854775808 ≤ n ∧ n ≤ 9223372036854775807) := by unfold inr; simp
theorem inr_no {n : Int} : inr n = false ↔ ¬ (-9223372036854775808 ≤ n ∧ n ≤ 9223372036854775807) := by unfold inr; simp
/-- A number, or 0 where it is none of 64 bits. -/
def cut (n : Int) : Int := if inr n = true then n else 0
/-- No error, or 'over' where it is none of 64 bits. -/
def ovr (n : Int) : Int := if inr n = true then 0 else 14
theorem cut_yes {n : Int} (h : inr n = true) : cut n = n := by unfold cut; rw [if_pos h]
theorem cut_no {n : Int} (h : inr n = false) : cut n = 0 := by unfold cut; rw [if_neg (by simp [h])]
theorem ovr_yes {n : Int} (h : inr n = true) : ovr n = 0 := by unfold ovr; rw [if_pos h]
theorem ovr_no {n : Int} (h : inr n = false) : ovr n = 14 := by unfold ovr; rw [if_neg (by simp [h])]
theorem inr_cut (n : Int) : inr (cut n) = true := by
  cases h : inr n
  · rw [cut_no h]; rfl
  · rw [cut_yes h, h]

/-! ### products -/

theorem mul_back (a b : Int) (h0 : a ≠ 0) : (a * b).tdiv a = b := by rw [Int.mul_comm]; exact Int.mul_tdiv_cancel b h0
theorem wrap_near (p : Int) : wrap64 p = p ∨ p - wrap64 p ≥ 18446744073709551616 ∨ wrap64 p - p ≥ 18446744073709551616 := by unfold wrap64; omega
theorem wrap_inr (p : Int) : -9223372036854775808 ≤ wrap64 p ∧ wrap64 p ≤ 9223372036854775807 := by unfold wrap64; omega
theorem wrap_id {p : Int} (h : -9223372036854775808 ≤ p ∧ p ≤ 9223372036854775807) : wrap64 p = p := by unfold wrap64; omega
/-- A quotient of numbers of 64 bits is one, but for the least by -1. -/
theorem tdiv_inr {q a : Int} (hq : -9223372036854775808 ≤ q ∧ q ≤ 9223372036854775807) (h1 : ¬ (q = -9223372036854775808 ∧ a = -1)) :
    -9223372036854775808 ≤ q.tdiv a ∧ q.tdiv a ≤ 9223372036854775807 := by
  have e : (q.tdiv a).natAbs = q.natAbs / a.natAbs := Int.natAbs_tdiv q a
  have l := Nat.div_le_self q.natAbs a.natAbs
  by_cases c1 : a = -1
  · subst c1
    have e2 : q.tdiv (-1) = -q := by rw [Int.tdiv_neg, Int.tdiv_one]
    rw [e2]
    omega
  · by_cases c2 : a = 1
    · subst c2; simp; omega
    · by_cases c3 : a = 0
      · subst c3; simp
      · have l2 : q.natAbs / a.natAbs ≤ q.natAbs / 2 := Nat.div_le_div_left (by omega) (by omega)
        omega
theorem mul_other (a b : Int) (ha : -9223372036854775808 ≤ a ∧ a ≤ 9223372036854775807) (h0 : a ≠ 0) (h1 : a ≠ -1)
    (hp : ¬ (-9223372036854775808 ≤ a * b ∧ a * b ≤ 9223372036854775807)) : (wrap64 ((wrap64 (a * b)).tdiv a) != b) = true := by
  have hr := wrap_inr (a * b)
  rw [wrap_id (tdiv_inr hr (by omega))]
  simp only [bne_iff_ne, ne_eq]
  intro e
  have hm := Int.mul_tdiv_add_tmod (wrap64 (a * b)) a
  rw [e] at hm
  have h1 := Int.tmod_lt_of_pos (wrap64 (a * b)) (b := a.natAbs) (by omega)
  have h2 := Int.lt_tmod_of_pos (wrap64 (a * b)) (b := a.natAbs) (by omega)
  have h3 : (wrap64 (a * b)).tmod a.natAbs = (wrap64 (a * b)).tmod a := by
    rcases Int.natAbs_eq a with h | h
    · rw [← h]
    · rw [h]; simp
  rw [h3] at h1 h2
  have hw := wrap_near (a * b)
  generalize (wrap64 (a * b)).tmod a = r at *
  generalize wrap64 (a * b) = q at *
  generalize a * b = p at *
  omega

/-! ### quotients rounded down, and what is left -/

theorem fdiv_same {x y : Int} (h : x.tmod y = 0 ∨ ((x < 0) ↔ (y < 0))) (hy : y ≠ 0) : x.fdiv y = x.tdiv y := by
  rw [Int.fdiv_eq_tdiv]
  rcases h with h | h
  · rw [if_pos (Int.dvd_of_tmod_eq_zero h)]; omega
  · split
    · omega
    · split
      · rw [if_pos (by omega)]; omega
      · rw [if_neg (by omega), Int.sign_eq_neg_one_of_neg (by omega)]; omega
theorem fdiv_less {x y : Int} (h : x.tmod y ≠ 0) (hs : ¬ ((x < 0) ↔ (y < 0))) (hy : y ≠ 0) : x.fdiv y = x.tdiv y - 1 := by
  rw [Int.fdiv_eq_tdiv, if_neg (fun d => h (Int.tmod_eq_zero_of_dvd d))]
  split
  · rw [if_neg (by omega)]
  · rw [if_pos (by omega), Int.sign_eq_one_of_pos (by omega)]
theorem tmod_sign {x y : Int} : (0 ≤ x → 0 ≤ x.tmod y) ∧ (x ≤ 0 → x.tmod y ≤ 0) :=
  ⟨fun h => Int.tmod_nonneg y h, fun h => by have := Int.tmod_nonneg y (a := -x) (by omega); rw [Int.neg_tmod] at this; omega⟩
theorem fmod_same {y x : Int} (h : y.tmod x = 0 ∨ ((y.tmod x < 0) ↔ (x < 0))) (hx : x ≠ 0) : y.fmod x = y.tmod x := by
  have s := tmod_sign (x := y) (y := x)
  rw [Int.fmod_eq_tmod]
  by_cases c : y.tmod x = 0
  · rw [if_pos (Int.dvd_of_tmod_eq_zero c)]; omega
  · rw [if_neg (fun d => c (Int.tmod_eq_zero_of_dvd d))]
    split
    · rw [if_pos (by omega)]; omega
    · rw [if_neg (by omega)]; omega
theorem fmod_more {y x : Int} (h : y.tmod x ≠ 0) (hs : ¬ ((y.tmod x < 0) ↔ (x < 0))) (hx : x ≠ 0) : y.fmod x = y.tmod x + x := by
  have s := tmod_sign (x := y) (y := x)
  rw [Int.fmod_eq_tmod, if_neg (fun d => h (Int.tmod_eq_zero_of_dvd d))]
  split
  · rw [if_neg (by omega)]
  · rw [if_pos (by omega)]; omega
theorem fmod_pos {y x : Int} (h : 0 < x) : 0 ≤ y.fmod x ∧ y.fmod x < x := ⟨Int.fmod_nonneg_of_pos y h, Int.fmod_lt_of_pos y h⟩
theorem fmod_neg {y x : Int} (h : x < 0) : y.fmod x ≤ 0 ∧ x < y.fmod x := by
  have e := Int.fmod_eq_emod (a := y) (b := x)
  have h1 := Int.emod_nonneg y (b := x) (by omega)
  have h2 := Int.emod_lt_of_neg y h
  by_cases c : x ∣ y
  · rw [if_pos (Or.inr c), Int.emod_eq_zero_of_dvd c] at e; omega
  · rw [if_neg (by omega)] at e
    have h3 : y % x ≠ 0 := fun z => c (Int.dvd_of_emod_eq_zero z)
    omega
theorem fdiv_inr {x y : Int} (hx : -9223372036854775808 ≤ x ∧ x ≤ 9223372036854775807) (hy : y ≠ 0) (h1 : ¬ (x = -9223372036854775808 ∧ y = -1)) :
    -9223372036854775808 ≤ x.fdiv y ∧ x.fdiv y ≤ 9223372036854775807 := by
  have t := tdiv_inr hx h1
  by_cases c : x.tmod y = 0 ∨ ((x < 0) ↔ (y < 0))
  · rw [fdiv_same c hy]; exact t
  · have c1 : x.tmod y ≠ 0 := fun z => c (Or.inl z)
    have c2 : ¬ ((x < 0) ↔ (y < 0)) := fun z => c (Or.inr z)
    rw [fdiv_less c1 c2 hy]
    refine ⟨?_, by omega⟩
    have e : (x.tdiv y).natAbs = x.natAbs / y.natAbs := Int.natAbs_tdiv x y
    have h2 : y.natAbs ≠ 1 := by
      intro h
      rcases Int.natAbs_eq y with h' | h' <;> rw [h] at h' <;> simp at h' <;> subst h' <;> simp at c1
    have l2 : x.natAbs / y.natAbs ≤ x.natAbs / 2 := Nat.div_le_div_left (by omega) (by omega)
    omega
end Go.Proofs.Ythncgocjegalhaa.Nm

namespace Go.Proofs.Ythncgocjegalhaa.Nm

open Go.RowKit

theorem add64 (a b : Int) (ha : inr a = true) (hb : inr b = true) (w : World) :
    Calls Try.prog 63 #[.int .i64 a, .int .i64 b] w fun e w' => e = .returned (.tuple #[.int .i64 (cut (a + b)), .bool (inr (a + b))]) ∧ w' = w := by
  rw [inr_iff] at ha hb
  cases h : inr (a + b)
  · rw [cut_no h]
    rw [inr_no] at h
    have t : (!decide (a < wrap64 (a + b)) == decide (0 < b)) = true := by
      unfold wrap64
      by_cases p : 0 < b <;> simp [p] <;> omega
    go_enter Try.func63, Try.ntmps63
    go_wp2
    go_ret2
    exact ⟨rfl, rfl⟩
  · rw [cut_yes h]
    rw [inr_iff] at h
    have t : (!decide (a < a + b) == decide (0 < b)) = false := by
      by_cases p : 0 < b <;> simp [p] <;> omega
    go_enter Try.func63, Try.ntmps63
    go_wp2
    go_ret2
    exact ⟨rfl, rfl⟩

theorem sub64 (a b : Int) (ha : inr a = true) (hb : inr b = true) (w : World) :
    Calls Try.prog 59 #[.int .i64 a, .int .i64 b] w fun e w' => e = .returned (.tuple #[.int .i64 (cut (a - b)), .bool (inr (a - b))]) ∧ w' = w := by
  rw [inr_iff] at ha hb
  cases h : inr (a - b)
  · rw [cut_no h]
    rw [inr_no] at h
    have t : (!decide (wrap64 (a - b) < a) == decide (0 < b)) = true := by
      unfold wrap64
      by_cases p : 0 < b <;> simp [p] <;> omega
    go_enter Try.func59, Try.ntmps59
    go_wp2
    go_ret2
    exact ⟨rfl, rfl⟩
  · rw [cut_yes h]
    rw [inr_iff] at h
    have t : (!decide (a - b < a) == decide (0 < b)) = false := by
      by_cases p : 0 < b <;> simp [p] <;> omega
    go_enter Try.func59, Try.ntmps59
    go_wp2
    go_ret2
    exact ⟨rfl, rfl⟩

/-- 0 - b, as the walk spells it. -/
theorem neg64 (b : Int) (hb : inr b = true) (w : World) :
    Calls Try.prog 59 #[.int .i64 0, .int .i64 b] w fun e w' => e = .returned (.tuple #[.int .i64 (cut (-b)), .bool (inr (-b))]) ∧ w' = w := by
  have h := sub64 0 b rfl hb w
  rw [show (0 : Int) - b = -b by omega] at h
  exact h

theorem mul64 (a b : Int) (ha : inr a = true) (hb : inr b = true) (w : World) :
    Calls Try.prog 64 #[.int .i64 a, .int .i64 b] w fun e w' => e = .returned (.tuple #[.int .i64 (cut (a * b)), .bool (inr (a * b))]) ∧ w' = w := by
  have ha' := ha
  have hb' := hb
  rw [inr_iff] at ha hb
  by_cases c0 : a = 0
  · subst c0
    have e : inr ((0 : Int) * b) = true := by rw [Int.zero_mul]; rfl
    rw [cut_yes e, e, Int.zero_mul]
    go_enter Try.func64, Try.ntmps64
    go_wp2
    go_ret2
    exact ⟨rfl, rfl⟩
  by_cases c1 : a = -1
  · subst c1
    have e : (-1 : Int) * b = -b := by omega
    rw [e]
    clear e
    go_enter Try.func64, Try.ntmps64
    go_wp2_with (go_at_call 59; refine (neg64 _ hb' _).mono ?_; rintro e w' ⟨rfl, rfl⟩)
    go_ret2
    exact ⟨rfl, rfl⟩
  cases h : inr (a * b)
  · rw [cut_no h]
    rw [inr_no] at h
    have t := mul_other a b ha c0 c1 h
    go_enter Try.func64, Try.ntmps64
    go_wp2
    go_ret2
    exact ⟨rfl, rfl⟩
  · rw [cut_yes h]
    rw [inr_iff] at h
    have t := mul_back a b c0
    go_enter Try.func64, Try.ntmps64
    go_wp2
    go_ret2
    exact ⟨rfl, rfl⟩
end Go.Proofs.Ythncgocjegalhaa.Nm

namespace Go.Proofs.Ythncgocjegalhaa.Nm

open Go.RowKit

set_option linter.unusedVariables false

/-! ### truth, sign -/

def tr (b : Bool) : Int := if b = true then 1 else 0
def sg (n : Int) : Int := if n < 0 then -1 else if 0 < n then 1 else 0

/-! ### factorials -/

def fact : Nat → Nat
  | 0 => 1
  | n + 1 => (n + 1) * fact n
theorem fact_mono {a b : Nat} (h : a ≤ b) : fact a ≤ fact b := by
  induction b with
  | zero => have : a = 0 := by omega
            subst this; exact Nat.le_refl _
  | succ n ih =>
    rcases Nat.lt_or_ge n a with h1 | h1
    · have : a = n + 1 := by omega
      subst this; exact Nat.le_refl _
    · have := ih h1
      have e : fact (n + 1) = n * fact n + fact n := by show (n + 1) * fact n = _; rw [Nat.add_mul, Nat.one_mul]
      omega
theorem fact20 : fact 20 = 2432902008176640000 := by decide
theorem fact21 : fact 21 = 51090942171709440000 := by decide
theorem fact_small {n : Nat} (h : n ≤ 20) : inr (fact n) = true := by
  rw [inr_iff]; have := fact_mono h; rw [fact20] at this; omega
theorem fact_great {n : Nat} (h : 20 < n) : inr (fact n) = false := by
  rw [inr_no]; have := fact_mono (a := 21) h; rw [fact21] at this; omega

/-! ### ways to choose -/

def binom : Nat → Nat → Nat
  | _, 0 => 1
  | 0, _ + 1 => 0
  | n + 1, k + 1 => binom n k + binom n (k + 1)
theorem binom_zero (n : Nat) : binom n 0 = 1 := by cases n <;> rfl
theorem binom_step (n k : Nat) : binom (n + 1) (k + 1) = binom n k + binom n (k + 1) := rfl
theorem binom_over {n k : Nat} (h : n < k) : binom n k = 0 := by
  induction n generalizing k with
  | zero => cases k with
    | zero => omega
    | succ k => rfl
  | succ n ih => cases k with
    | zero => omega
    | succ k => rw [binom_step, ih (by omega), ih (by omega)]
theorem binom_self (n : Nat) : binom n n = 1 := by
  induction n with
  | zero => rfl
  | succ n ih => rw [binom_step, ih, binom_over (by omega)]
/-- i of n times i is i - 1 of n - 1 times n. -/
theorem binom_mul (n k : Nat) : binom (n + 1) (k + 1) * (k + 1) = binom n k * (n + 1) := by
  induction n generalizing k with
  | zero => cases k with
    | zero => rfl
    | succ k => rw [binom_over (by omega), binom_over (by omega)]; omega
  | succ n ih => cases k with
    | zero =>
      have h := ih 0
      rw [binom_step, binom_zero, Nat.add_mul, h, binom_zero]; omega
    | succ k =>
      have h1 := ih k
      have h2 := ih (k + 1)
      have e3 := binom_step n k
      rw [binom_step (n + 1) (k + 1), Nat.add_mul, h2]
      have h4 : binom (n + 1) (k + 1) * (k + 1 + 1) = binom (n + 1) (k + 1) * (k + 1) + binom (n + 1) (k + 1) := by rw [Nat.mul_add, Nat.mul_one]
      rw [h4, h1, e3]
      have h5 : (binom n k + binom n (k + 1)) * (n + 1 + 1) = binom n k * (n + 1) + binom n (k + 1) * (n + 1) + (binom n k + binom n (k + 1)) := by rw [Nat.mul_add _ (n + 1) 1, Nat.add_mul, Nat.mul_one]
      omega
theorem binom_sym {n k : Nat} (h : k ≤ n) : binom n k = binom n (n - k) := by
  induction n generalizing k with
  | zero => have : k = 0 := by omega
            subst this; rfl
  | succ n ih => cases k with
    | zero => rw [binom_zero, Nat.sub_zero, binom_self]
    | succ k =>
      rcases Nat.lt_or_ge k n with h1 | h1
      · have e : n + 1 - (k + 1) = (n - k - 1) + 1 := by omega
        rw [e, binom_step, binom_step, ih (k := k) (by omega), ih (k := k + 1) (by omega)]
        have e2 : n - k - 1 + 1 = n - k := by omega
        have e3 : n - (k + 1) = n - k - 1 := by omega
        rw [e2, e3]; omega
      · have : k = n := by omega
        subst this
        rw [binom_self, Nat.sub_self, binom_zero]
/-- More of more things: never fewer ways. -/
theorem binom_up (m : Nat) {i j : Nat} (h : i ≤ j) : binom (m + i) i ≤ binom (m + j) j := by
  induction j with
  | zero => have : i = 0 := by omega
            subst this; exact Nat.le_refl _
  | succ j ih =>
    rcases Nat.lt_or_ge j i with h1 | h1
    · have : i = j + 1 := by omega
      subst this; exact Nat.le_refl _
    · have := ih h1
      rw [show m + (j + 1) = (m + j) + 1 by omega, binom_step]; omega
theorem binom_wide {a b : Nat} (k : Nat) (h : a ≤ b) : binom a k ≤ binom b k := by
  induction b with
  | zero => have : a = 0 := by omega
            subst this; exact Nat.le_refl _
  | succ b ih =>
    rcases Nat.lt_or_ge b a with h1 | h1
    · have : a = b + 1 := by omega
      subst this; exact Nat.le_refl _
    · have := ih h1
      cases k with
      | zero => rw [binom_zero, binom_zero]; exact Nat.le_refl _
      | succ k => rw [binom_step]; omega
/-- The product from above, for one great number. -/
def falls : Nat → Nat → Nat
  | _, 0 => 1
  | n, k + 1 => n * falls (n - 1) k
theorem binom_falls (n k : Nat) : binom n k * fact k = falls n k := by
  induction k generalizing n with
  | zero => rw [binom_zero]; rfl
  | succ k ih => cases n with
    | zero => rw [binom_over (by omega)]; simp [falls]
    | succ n =>
      show binom (n + 1) (k + 1) * ((k + 1) * fact k) = (n + 1) * falls n k
      rw [← Nat.mul_assoc, binom_mul, ← ih n, Nat.mul_right_comm, Nat.mul_comm]
theorem binom68 : binom 68 34 = 28453041475240576740 := by
  have h := binom_falls 68 34
  have e1 : fact 34 = 295232799039604140847618609643520000000 := by decide
  have e3 : falls 68 34 = 28453041475240576740 * 295232799039604140847618609643520000000 := by decide
  rw [e1, e3] at h
  exact Nat.eq_of_mul_eq_mul_right (by decide) h
theorem binom_great {n k : Nat} (h : 33 < k) (h2 : k + k ≤ n) : inr (binom n k) = false := by
  rw [inr_no]
  have a := binom_wide k h2
  have b := binom_up k (i := 34) (j := k) h
  have c := binom_wide (a := 68) (b := k + 34) 34 (by omega)
  rw [binom68] at c
  omega

/-! ### the rows that need more than 'cut' and 'ovr' -/

def divN (x y : Int) : Int := if y = 0 then 0 else cut (x.fdiv y)
def divE (x y : Int) : Int := if y = 0 then 10 else ovr (x.fdiv y)
def halfN (y : Int) : Int := if y % 2 = 0 then y / 2 else 0
def halfE (y : Int) : Int := if y % 2 = 0 then 0 else 10
def factN (y : Int) : Int := if y < 0 then 0 else cut (fact y.toNat)
def factE (y : Int) : Int := if y < 0 then 10 else ovr (fact y.toNat)
def isT (n : Int) : Bool := n == 0 || n == 1
def bitB (x y : Int) : Bool := isT x && isT y
def norN (x y : Int) : Int := if bitB x y = true then tr (x == 0 && y == 0) else 0
def nandN (x y : Int) : Int := if bitB x y = true then tr (x == 0 || y == 0) else 0
def bitE (x y : Int) : Int := if bitB x y = true then 0 else 10
end Go.Proofs.Ythncgocjegalhaa.Nm

namespace Go.Proofs.Ythncgocjegalhaa.Nm

open Go.RowKit

set_option linter.unusedVariables false

theorem ret_int {k : IntKind} {a b : Int} (h : a = b) : Ending.returned (.int k a) = .returned (.int k b) := by rw [h]
theorem ret_bool {a b : Bool} (h : a = b) : Ending.returned (.bool a) = .returned (.bool b) := by rw [h]
theorem ret_two {k l : IntKind} {a b c d : Int} (h : a = b) (g : c = d) : Ending.returned (.tuple #[.int k a, .int l c]) = .returned (.tuple #[.int k b, .int l d]) := by rw [h, g]

theorem truth_any (b : Bool) (w : World) :
    Calls Try.prog 69 #[.bool b] w fun e w' => e = .returned (.int .i64 (tr b)) ∧ w' = w := by
  cases b <;> (go_enter Try.func69, Try.ntmps69; go_wp2; go_ret; exact ⟨rfl, rfl⟩)

theorem sign_any (n : Int) (w : World) :
    Calls Try.prog 60 #[.int .i64 n] w fun e w' => e = .returned (.int .i64 (sg n)) ∧ w' = w := by
  by_cases h : n < 0
  · have e : sg n = -1 := by unfold sg; rw [if_pos h]
    rw [e]
    go_enter Try.func60, Try.ntmps60
    go_wp2
    go_ret
    exact ⟨rfl, rfl⟩
  · have e : sg n = tr (decide (0 < n)) := by
      unfold sg tr; rw [if_neg h]
      by_cases p : 0 < n <;> simp [p]
    rw [e]
    clear e
    go_enter Try.func60, Try.ntmps60
    go_wp2_with (go_at_call 69; refine (truth_any _ _).mono ?_; rintro e w' ⟨rfl, rfl⟩)
    go_ret
    exact ⟨rfl, rfl⟩

theorem odd_any (n : Int) (w : World) :
    Calls Try.prog 76 #[.int .i64 n] w fun e w' => e = .returned (.bool (n % 2 != 0)) ∧ w' = w := by
  go_enter Try.func76, Try.ntmps76
  go_wp2
  go_ret
  refine ⟨ret_bool ?_, rfl⟩
  have h2 := Int.dvd_iff_emod_eq_zero (a := 2) (b := n)
  by_cases c : n % 2 = 0
  · rw [c, (Int.tmod_eq_zero_of_dvd (h2.2 c))]
  · have c2 : n.tmod 2 ≠ 0 := fun z => c (h2.1 (Int.dvd_of_tmod_eq_zero z))
    rw [bne_iff_ne.2 c, bne_iff_ne.2 c2]

theorem half_any (y : Int) (hy : inr y = true) (w : World) :
    Calls Try.prog 65 #[.int .i64 y] w fun e w' => e = .returned (.tuple #[.int .i64 (halfN y), .int .i64 (halfE y)]) ∧ w' = w := by
  rw [inr_iff] at hy
  by_cases c : y % 2 = 0
  · have t : (y % 2 != 0) = false := by simp [c]
    have e : wrap64 (y.tdiv 2) = halfN y := by
      unfold halfN; rw [if_pos c]
      have h := Int.mul_tdiv_add_tmod y 2
      rw [Int.tmod_eq_zero_of_dvd (Int.dvd_of_emod_eq_zero c)] at h
      unfold wrap64; omega
    have e2 : halfE y = 0 := by unfold halfE; rw [if_pos c]
    rw [e2]
    go_enter Try.func65, Try.ntmps65
    go_wp2_with (go_at_call 76; refine (odd_any _ _).mono ?_; rintro e w' ⟨rfl, rfl⟩)
    go_ret2
    exact ⟨ret_two (by first | rfl | exact e | (rw [← e, wrap_id (tdiv_inr hy (by omega))])) rfl, rfl⟩
  · have t : (y % 2 != 0) = true := by simp [c]
    have e : halfN y = 0 := by unfold halfN; rw [if_neg c]
    have e2 : halfE y = 10 := by unfold halfE; rw [if_neg c]
    rw [e, e2]
    go_enter Try.func65, Try.ntmps65
    go_wp2_with (go_at_call 76; refine (odd_any _ _).mono ?_; rintro e w' ⟨rfl, rfl⟩)
    go_ret2
    exact ⟨rfl, rfl⟩

theorem checked_cut (n : Int) (w : World) :
    Calls Try.prog 58 #[.int .i64 (cut n), .bool (inr n)] w fun e w' => e = .returned (.tuple #[.int .i64 (cut n), .int .i64 (ovr n)]) ∧ w' = w := by
  cases h : inr n
  · rw [cut_no h, ovr_no h]
    go_enter Try.func58, Try.ntmps58
    go_wp2
    go_ret2
    exact ⟨rfl, rfl⟩
  · rw [cut_yes h, ovr_yes h]
    go_enter Try.func58, Try.ntmps58
    go_wp2
    go_ret2
    exact ⟨rfl, rfl⟩

theorem size_any (n : Int) (hn : inr n = true) (w : World) :
    Calls Try.prog 62 #[.int .i64 n] w fun e w' => e = .returned (.int .u64 (n.natAbs : Nat)) ∧ w' = w := by
  rw [inr_iff] at hn
  by_cases h : n < 0
  all_goals
    go_enter Try.func62, Try.ntmps62
    go_wp2
    go_ret
    exact ⟨ret_int (by first | omega | (simp only [IntKind.wrap_u64]; omega)), rfl⟩

theorem unsigned_any (n : Nat) (hn : n < 18446744073709551616) (w : World) :
    Calls Try.prog 61 #[.int .u64 (n : Nat)] w fun e w' => e = .returned (.tuple #[.int .i64 (cut n), .int .i64 (ovr n)]) ∧ w' = w := by
  cases h : inr n
  · rw [cut_no h, ovr_no h]
    rw [inr_no] at h
    go_enter Try.func61, Try.ntmps61
    go_wp2
    go_ret2
    exact ⟨rfl, rfl⟩
  · rw [cut_yes h, ovr_yes h]
    rw [inr_iff] at h
    go_enter Try.func61, Try.ntmps61
    go_wp2
    go_ret2
    exact ⟨rfl, rfl⟩

theorem isTruth_any (n : Int) (w : World) :
    Calls Try.prog 77 #[.int .i64 n] w fun e w' => e = .returned (.bool (isT n)) ∧ w' = w := by
  by_cases h : n = 0
  · subst h
    go_enter Try.func77, Try.ntmps77
    go_wp2
    go_ret
    exact ⟨rfl, rfl⟩
  · go_enter Try.func77, Try.ntmps77
    go_wp2
    go_ret
    exact ⟨rfl, rfl⟩

theorem nor_any (x y : Int) (w : World) :
    Calls Try.prog 72 #[.int .i64 x, .int .i64 y] w fun e w' => e = .returned (.tuple #[.int .i64 (norN x y), .int .i64 (bitE x y)]) ∧ w' = w := by
  cases hx : isT x
  · have e : norN x y = 0 := by unfold norN bitB; simp [hx]
    have e2 : bitE x y = 10 := by unfold bitE bitB; simp [hx]
    rw [e, e2]
    go_enter Try.func72, Try.ntmps72
    go_wp2_with (go_at_call 77; refine (isTruth_any _ _).mono ?_; rintro e w' ⟨rfl, rfl⟩)
    go_ret2
    exact ⟨rfl, rfl⟩
  cases hy : isT y
  · have e : norN x y = 0 := by unfold norN bitB; simp [hy]
    have e2 : bitE x y = 10 := by unfold bitE bitB; simp [hy]
    rw [e, e2]
    go_enter Try.func72, Try.ntmps72
    go_wp2_with (go_at_call 77; refine (isTruth_any _ _).mono ?_; rintro e w' ⟨rfl, rfl⟩)
    go_ret2
    exact ⟨rfl, rfl⟩
  · have e : norN x y = tr (x == 0 && y == 0) := by unfold norN bitB; simp [hx, hy]
    have e2 : bitE x y = 0 := by unfold bitE bitB; simp [hx, hy]
    rw [e, e2]
    clear e e2
    by_cases c : x = 0
    · subst c
      go_enter Try.func72, Try.ntmps72
      go_wp2_with (first | (go_at_call 77; refine (isTruth_any _ _).mono ?_; rintro e w' ⟨rfl, rfl⟩) | (go_at_call 69; refine (truth_any _ _).mono ?_; rintro e w' ⟨rfl, rfl⟩))
      go_ret2
      exact ⟨rfl, rfl⟩
    · have c1 : (x == 0) = false := by simp [c]
      go_enter Try.func72, Try.ntmps72
      go_wp2_with (first | (go_at_call 77; refine (isTruth_any _ _).mono ?_; rintro e w' ⟨rfl, rfl⟩) | (go_at_call 69; refine (truth_any _ _).mono ?_; rintro e w' ⟨rfl, rfl⟩))
      go_ret2
      exact ⟨ret_two (by rw [c1]; rfl) rfl, rfl⟩

theorem nand_any (x y : Int) (w : World) :
    Calls Try.prog 73 #[.int .i64 x, .int .i64 y] w fun e w' => e = .returned (.tuple #[.int .i64 (nandN x y), .int .i64 (bitE x y)]) ∧ w' = w := by
  cases hx : isT x
  · have e : nandN x y = 0 := by unfold nandN bitB; simp [hx]
    have e2 : bitE x y = 10 := by unfold bitE bitB; simp [hx]
    rw [e, e2]
    go_enter Try.func73, Try.ntmps73
    go_wp2_with (go_at_call 77; refine (isTruth_any _ _).mono ?_; rintro e w' ⟨rfl, rfl⟩)
    go_ret2
    exact ⟨rfl, rfl⟩
  cases hy : isT y
  · have e : nandN x y = 0 := by unfold nandN bitB; simp [hy]
    have e2 : bitE x y = 10 := by unfold bitE bitB; simp [hy]
    rw [e, e2]
    go_enter Try.func73, Try.ntmps73
    go_wp2_with (go_at_call 77; refine (isTruth_any _ _).mono ?_; rintro e w' ⟨rfl, rfl⟩)
    go_ret2
    exact ⟨rfl, rfl⟩
  · have e : nandN x y = tr (x == 0 || y == 0) := by unfold nandN bitB; simp [hx, hy]
    have e2 : bitE x y = 0 := by unfold bitE bitB; simp [hx, hy]
    rw [e, e2]
    clear e e2
    by_cases c : x = 0
    · subst c
      go_enter Try.func73, Try.ntmps73
      go_wp2_with (first | (go_at_call 77; refine (isTruth_any _ _).mono ?_; rintro e w' ⟨rfl, rfl⟩) | (go_at_call 69; refine (truth_any _ _).mono ?_; rintro e w' ⟨rfl, rfl⟩))
      go_ret2
      exact ⟨rfl, rfl⟩
    · have c1 : (x == 0) = false := by simp [c]
      go_enter Try.func73, Try.ntmps73
      go_wp2_with (first | (go_at_call 77; refine (isTruth_any _ _).mono ?_; rintro e w' ⟨rfl, rfl⟩) | (go_at_call 69; refine (truth_any _ _).mono ?_; rintro e w' ⟨rfl, rfl⟩))
      go_ret2
      exact ⟨ret_two (by rw [c1]; rfl) rfl, rfl⟩

theorem quotient_any (x y : Int) (hx : inr x = true) (hy : inr y = true) (w : World) :
    Calls Try.prog 67 #[.int .i64 x, .int .i64 y] w fun e w' => e = .returned (.tuple #[.int .i64 (divN x y), .int .i64 (divE x y)]) ∧ w' = w := by
  rw [inr_iff] at hx hy
  by_cases c0 : y = 0
  · subst c0
    have e : divN x 0 = 0 := rfl
    have e2 : divE x 0 = 10 := rfl
    rw [e, e2]
    go_enter Try.func67, Try.ntmps67
    go_wp2
    go_ret2
    exact ⟨rfl, rfl⟩
  have eN : divN x y = cut (x.fdiv y) := by unfold divN; rw [if_neg c0]
  have eE : divE x y = ovr (x.fdiv y) := by unfold divE; rw [if_neg c0]
  rw [eN, eE]
  clear eN eE
  by_cases c1 : x = -9223372036854775808 ∧ y = -1
  · obtain ⟨rfl, rfl⟩ := c1
    go_enter Try.func67, Try.ntmps67
    go_wp2
    go_ret2
    exact ⟨rfl, rfl⟩
  have hi := inr_iff.2 (fdiv_inr hx c0 c1)
  rw [cut_yes hi, ovr_yes hi]
  have ti := tdiv_inr hx c1
  rcases (show x ≤ -9223372036854775808 ∨ (-9223372036854775808 < x ∧ x < 0) ∨ 0 ≤ x by omega) with c3 | c3 | c3
  · have b1 : (x == -9223372036854775808) = true := by simp; omega
    have b2 : decide (x < 0) = true := by simp; omega
    have b4 : y ≠ -1 := fun h => c1 ⟨by omega, h⟩
    clear c1
    by_cases c2 : x.tmod y = 0
    · have hc := c2
      have t1 : (x.tmod y != 0) = false := by simp [c2]
      clear c2
      have hc' : x.fdiv y = x.tdiv y := fdiv_same (Or.inl hc) c0
      rw [hc']
      clear hc hc' hi
      go_enter Try.func67, Try.ntmps67
      go_wp2
      go_ret2
      exact ⟨rfl, rfl⟩
    · have t1 : (x.tmod y != 0) = true := by simpa [bne_iff_ne] using c2
      by_cases c5 : y < 0
      · have b3 : decide (y < 0) = true := by simp; omega
        have ef : x.fdiv y = x.tdiv y := fdiv_same (Or.inr (by omega)) c0
        rw [ef]
        clear ef hi c2
        go_enter Try.func67, Try.ntmps67
        go_wp2
        go_ret2
        exact ⟨rfl, rfl⟩
      · have b3 : decide (y < 0) = false := by simp; omega
        have ef : x.fdiv y = x.tdiv y - 1 := fdiv_less c2 (by omega) c0
        rw [inr_iff, ef] at hi
        rw [ef]
        clear ef c2
        go_enter Try.func67, Try.ntmps67
        go_wp2
        go_ret2
        exact ⟨rfl, rfl⟩
  · have b1 : (x == -9223372036854775808) = false := by simp; omega
    have b2 : decide (x < 0) = true := by simp; omega
    clear c1
    by_cases c2 : x.tmod y = 0
    · have hc := c2
      have t1 : (x.tmod y != 0) = false := by simp [c2]
      clear c2
      have hc' : x.fdiv y = x.tdiv y := fdiv_same (Or.inl hc) c0
      rw [hc']
      clear hc hc' hi
      go_enter Try.func67, Try.ntmps67
      go_wp2
      go_ret2
      exact ⟨rfl, rfl⟩
    · have t1 : (x.tmod y != 0) = true := by simpa [bne_iff_ne] using c2
      by_cases c5 : y < 0
      · have b3 : decide (y < 0) = true := by simp; omega
        have ef : x.fdiv y = x.tdiv y := fdiv_same (Or.inr (by omega)) c0
        rw [ef]
        clear ef hi c2
        go_enter Try.func67, Try.ntmps67
        go_wp2
        go_ret2
        exact ⟨rfl, rfl⟩
      · have b3 : decide (y < 0) = false := by simp; omega
        have ef : x.fdiv y = x.tdiv y - 1 := fdiv_less c2 (by omega) c0
        rw [inr_iff, ef] at hi
        rw [ef]
        clear ef c2
        go_enter Try.func67, Try.ntmps67
        go_wp2
        go_ret2
        exact ⟨rfl, rfl⟩
  · have b1 : (x == -9223372036854775808) = false := by simp; omega
    have b2 : decide (x < 0) = false := by simp; omega
    have b5 : x.tmod y = x % y := Int.tmod_eq_emod_of_nonneg c3
    clear c1
    by_cases c2 : x.tmod y = 0
    · have hc := c2
      rw [b5] at c2
      clear b5
      have t1 : (x % y != 0) = false := by simp [c2]
      clear c2
      have hc' : x.fdiv y = x.tdiv y := fdiv_same (Or.inl hc) c0
      rw [hc']
      clear hc hc' hi
      go_enter Try.func67, Try.ntmps67
      go_wp2
      go_ret2
      exact ⟨rfl, rfl⟩
    · have t1 : (x % y != 0) = true := by simpa [bne_iff_ne, b5] using c2
      clear b5
      by_cases c5 : y < 0
      · have b3 : decide (y < 0) = true := by simp; omega
        have ef : x.fdiv y = x.tdiv y - 1 := fdiv_less c2 (by omega) c0
        rw [inr_iff, ef] at hi
        rw [ef]
        clear ef c2
        go_enter Try.func67, Try.ntmps67
        go_wp2
        go_ret2
        exact ⟨rfl, rfl⟩
      · have b3 : decide (y < 0) = false := by simp; omega
        have ef : x.fdiv y = x.tdiv y := fdiv_same (Or.inr (by omega)) c0
        rw [ef]
        clear ef hi c2
        go_enter Try.func67, Try.ntmps67
        go_wp2
        go_ret2
        exact ⟨rfl, rfl⟩

theorem residue_any (x y : Int) (hx : inr x = true) (hy : inr y = true) (w : World) :
    Calls Try.prog 68 #[.int .i64 x, .int .i64 y] w fun e w' => e = .returned (.int .i64 (y.fmod x)) ∧ w' = w := by
  rw [inr_iff] at hx hy
  by_cases c0 : x = 0
  · subst c0
    rw [Int.fmod_zero]
    go_enter Try.func68, Try.ntmps68
    go_wp2
    go_ret
    exact ⟨rfl, rfl⟩
  by_cases c2 : y.tmod x = 0
  · have ef := fmod_same (Or.inl c2) c0
    rw [c2] at ef
    rw [ef]
    clear ef
    go_enter Try.func68, Try.ntmps68
    go_wp2
    go_ret
    exact ⟨rfl, rfl⟩
  by_cases c5 : x < 0
  · by_cases c6 : y.tmod x < 0
    · have ef := fmod_same (y := y) (x := x) (Or.inr (by omega)) c0
      have bd := fmod_neg (y := y) c5
      rw [ef] at bd ⊢
      clear ef
      go_enter Try.func68, Try.ntmps68
      go_wp2
      go_ret
      exact ⟨rfl, rfl⟩
    · have ef := fmod_more (y := y) (x := x) c2 (by omega) c0
      have bd := fmod_neg (y := y) c5
      rw [ef] at bd ⊢
      clear ef
      go_enter Try.func68, Try.ntmps68
      go_wp2
      go_ret
      exact ⟨rfl, rfl⟩
  · have c7 : 0 < x := by omega
    by_cases c6 : y.tmod x < 0
    · have ef := fmod_more (y := y) (x := x) c2 (by omega) c0
      have bd := fmod_pos (y := y) c7
      rw [ef] at bd ⊢
      clear ef
      go_enter Try.func68, Try.ntmps68
      go_wp2
      go_ret
      exact ⟨rfl, rfl⟩
    · have ef := fmod_same (y := y) (x := x) (Or.inr (by omega)) c0
      have bd := fmod_pos (y := y) c7
      rw [ef] at bd ⊢
      clear ef
      go_enter Try.func68, Try.ntmps68
      go_wp2
      go_ret
      exact ⟨rfl, rfl⟩

theorem factorial_any (y : Int) (hy : inr y = true) (w : World) :
    Calls Try.prog 66 #[.int .i64 y] w fun e w' => e = .returned (.tuple #[.int .i64 (factN y), .int .i64 (factE y)]) ∧ w' = w := by
  rw [inr_iff] at hy
  by_cases c0 : y < 0
  · have e : factN y = 0 := by unfold factN; rw [if_pos c0]
    have e2 : factE y = 10 := by unfold factE; rw [if_pos c0]
    rw [e, e2]
    go_enter Try.func66, Try.ntmps66
    go_wp2
    go_ret2
    exact ⟨rfl, rfl⟩
  have e : factN y = cut (fact y.toNat) := by unfold factN; rw [if_neg c0]
  have e2 : factE y = ovr (fact y.toNat) := by unfold factE; rw [if_neg c0]
  rw [e, e2]
  clear e e2
  by_cases c1 : 20 < y
  · have hg := fact_great (n := y.toNat) (by omega)
    rw [cut_no hg, ovr_no hg]
    clear hg
    go_enter Try.func66, Try.ntmps66
    go_wp2
    go_ret2
    exact ⟨rfl, rfl⟩
  · have hs := fact_small (n := y.toNat) (by omega)
    rw [cut_yes hs, ovr_yes hs]
    clear hs
    go_enter Try.func66, Try.ntmps66
    go_wp2
    go_loop [4, 5] (fun p i => ∃ k : Nat, 1 ≤ k ∧ k ≤ 20 ∧ (k ≤ y.toNat ∨ k = 1) ∧ i = .int .i64 ((k : Int) + 1) ∧ p = .int .i64 (fact k : Nat)) (fun _ i => (22 - intOf i).toNat)
    case atStart => exact ⟨1, by omega, by omega, by omega, rfl, rfl⟩
    case round =>
      obtain ⟨k, hk1, hk2, hk3, rfl, rfl⟩ := hrel
      by_cases hlt : (k : Int) + 1 ≤ y
      · have hs := inr_iff.1 (fact_small (n := k + 1) (by omega))
        have hm : (fact k : Int) * ((k : Int) + 1) = (fact (k + 1) : Nat) := by
          rw [show fact (k + 1) = (k + 1) * fact k from rfl, Int.natCast_mul, Int.mul_comm]; rfl
        rw [← hm] at hs
        go_wp2
        go_round
        case rel => exact ⟨k + 1, by omega, by omega, by omega, by go_num, by rw [← hm]⟩
        case measure => simp [intOf]; omega
      · go_wp2
        go_ret2
        have hf : fact k = fact y.toNat := by
          rcases hk3 with h | h
          · rw [show k = y.toNat by omega]
          · subst h
            rcases (show y.toNat = 0 ∨ y.toNat = 1 by omega) with h | h <;> rw [h] <;> rfl
        exact ⟨ret_two (by rw [hf]) rfl, rfl⟩
end Go.Proofs.Ythncgocjegalhaa.Nm
