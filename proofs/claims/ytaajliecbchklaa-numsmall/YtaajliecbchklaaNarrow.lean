/- Contracts of package num's Add, Sub and Mul at int32, and of the law's 'fits' and 'small'. -/
import Derived.Test.YtaajliecbchklaaBegun
namespace Go.Proofs.Ytaajliecbchklaa
open Go.RowKit
set_option linter.unusedVariables false

/-- Is a number one of 32 bits with a sign? -/
def inr32 (n : Int) : Bool := decide (-2147483648 ≤ n ∧ n ≤ 2147483647)
theorem inr_iff32 {n : Int} : inr32 n = true ↔ (-2147483648 ≤ n ∧ n ≤ 2147483647) := by unfold inr32; simp
theorem inr_no32 {n : Int} : inr32 n = false ↔ ¬ (-2147483648 ≤ n ∧ n ≤ 2147483647) := by unfold inr32; simp
/-- A number, or 0 where it is none of 32 bits. -/
def cut32 (n : Int) : Int := if inr32 n = true then n else 0
theorem cut_yes32 {n : Int} (h : inr32 n = true) : cut32 n = n := by unfold cut32; rw [if_pos h]
theorem cut_no32 {n : Int} (h : inr32 n = false) : cut32 n = 0 := by unfold cut32; rw [if_neg (by simp [h])]
theorem inr_cut32 (n : Int) : inr32 (cut32 n) = true := by
  cases h : inr32 n
  · rw [cut_no32 h]; rfl
  · rw [cut_yes32 h, h]

/-! ### products -/
theorem wrap_near32 (p : Int) : wrap32 p = p ∨ p - wrap32 p ≥ 4294967296 ∨ wrap32 p - p ≥ 4294967296 := by unfold wrap32; omega
theorem wrap_inr32 (p : Int) : -2147483648 ≤ wrap32 p ∧ wrap32 p ≤ 2147483647 := by unfold wrap32; omega
theorem wrap_id32 {p : Int} (h : -2147483648 ≤ p ∧ p ≤ 2147483647) : wrap32 p = p := by unfold wrap32; omega
/-- A quotient of numbers of 32 bits is one, but for the least by -1. -/
theorem tdiv_inr32 {q a : Int} (hq : -2147483648 ≤ q ∧ q ≤ 2147483647) (h1 : ¬ (q = -2147483648 ∧ a = -1)) :
    -2147483648 ≤ q.tdiv a ∧ q.tdiv a ≤ 2147483647 := by
  have e : (q.tdiv a).natAbs = q.natAbs / a.natAbs := Int.natAbs_tdiv q a
  have l := Nat.div_le_self q.natAbs a.natAbs
  by_cases c1 : a = -1
  · subst c1
    have e2 : q.tdiv (-1) = -q := by rw [Int.tdiv_neg, Int.tdiv_one]
    rw [e2]
    omega
  · by_cases c2 : a = 1
    · subst c2; simp; omega
    · by_cases c3 : a = 0
      · subst c3; simp
      · have l2 : q.natAbs / a.natAbs ≤ q.natAbs / 2 := Nat.div_le_div_left (by omega) (by omega)
        omega
theorem mul_other32 (a b : Int) (ha : -2147483648 ≤ a ∧ a ≤ 2147483647) (h0 : a ≠ 0) (h1 : a ≠ -1)
    (hp : ¬ (-2147483648 ≤ a * b ∧ a * b ≤ 2147483647)) : (wrap32 ((wrap32 (a * b)).tdiv a) != b) = true := by
  have hr := wrap_inr32 (a * b)
  rw [wrap_id32 (tdiv_inr32 hr (by omega))]
  simp only [bne_iff_ne, ne_eq]
  intro e
  have hm := Int.mul_tdiv_add_tmod (wrap32 (a * b)) a
  rw [e] at hm
  have h1 := Int.tmod_lt_of_pos (wrap32 (a * b)) (b := a.natAbs) (by omega)
  have h2 := Int.lt_tmod_of_pos (wrap32 (a * b)) (b := a.natAbs) (by omega)
  have h3 : (wrap32 (a * b)).tmod a.natAbs = (wrap32 (a * b)).tmod a := by
    rcases Int.natAbs_eq a with h | h
    · rw [← h]
    · rw [h]; simp
  rw [h3] at h1 h2
  have hw := wrap_near32 (a * b)
  generalize (wrap32 (a * b)).tmod a = r at *
  generalize wrap32 (a * b) = q at *
  generalize a * b = p at *
  omega


theorem add32 (a b : Int) (ha : inr32 a = true) (hb : inr32 b = true) (w : World) :
    Calls Try.prog 10 #[.int .i32 a, .int .i32 b] w fun e w' => e = .returned (.tuple #[.int .i32 (cut32 (a + b)), .bool (inr32 (a + b))]) ∧ w' = w := by
  rw [inr_iff32] at ha hb
  cases h : inr32 (a + b)
  · rw [cut_no32 h]
    rw [inr_no32] at h
    have t : (!decide (a < wrap32 (a + b)) == decide (0 < b)) = true := by
      unfold wrap32
      by_cases p : 0 < b <;> simp [p] <;> omega
    go_enter Try.func10, Try.ntmps10
    go_wp2
    go_ret2
    exact ⟨rfl, rfl⟩
  · rw [cut_yes32 h]
    rw [inr_iff32] at h
    have t : (!decide (a < a + b) == decide (0 < b)) = false := by
      by_cases p : 0 < b <;> simp [p] <;> omega
    go_enter Try.func10, Try.ntmps10
    go_wp2
    go_ret2
    exact ⟨rfl, rfl⟩

theorem sub32 (a b : Int) (ha : inr32 a = true) (hb : inr32 b = true) (w : World) :
    Calls Try.prog 11 #[.int .i32 a, .int .i32 b] w fun e w' => e = .returned (.tuple #[.int .i32 (cut32 (a - b)), .bool (inr32 (a - b))]) ∧ w' = w := by
  rw [inr_iff32] at ha hb
  cases h : inr32 (a - b)
  · rw [cut_no32 h]
    rw [inr_no32] at h
    have t : (!decide (wrap32 (a - b) < a) == decide (0 < b)) = true := by
      unfold wrap32
      by_cases p : 0 < b <;> simp [p] <;> omega
    go_enter Try.func11, Try.ntmps11
    go_wp2
    go_ret2
    exact ⟨rfl, rfl⟩
  · rw [cut_yes32 h]
    rw [inr_iff32] at h
    have t : (!decide (a - b < a) == decide (0 < b)) = false := by
      by_cases p : 0 < b <;> simp [p] <;> omega
    go_enter Try.func11, Try.ntmps11
    go_wp2
    go_ret2
    exact ⟨rfl, rfl⟩

/-- 0 - b, as the walk spells it. -/
theorem neg32 (b : Int) (hb : inr32 b = true) (w : World) :
    Calls Try.prog 11 #[.int .i32 0, .int .i32 b] w fun e w' => e = .returned (.tuple #[.int .i32 (cut32 (-b)), .bool (inr32 (-b))]) ∧ w' = w := by
  have h := sub32 0 b rfl hb w
  rw [show (0 : Int) - b = -b by omega] at h
  exact h

theorem mul32 (a b : Int) (ha : inr32 a = true) (hb : inr32 b = true) (w : World) :
    Calls Try.prog 12 #[.int .i32 a, .int .i32 b] w fun e w' => e = .returned (.tuple #[.int .i32 (cut32 (a * b)), .bool (inr32 (a * b))]) ∧ w' = w := by
  have ha' := ha
  have hb' := hb
  rw [inr_iff32] at ha hb
  by_cases c0 : a = 0
  · subst c0
    have e : inr32 ((0 : Int) * b) = true := by rw [Int.zero_mul]; rfl
    rw [cut_yes32 e, e, Int.zero_mul]
    go_enter Try.func12, Try.ntmps12
    go_wp2
    go_ret2
    exact ⟨rfl, rfl⟩
  by_cases c1 : a = -1
  · subst c1
    have e : (-1 : Int) * b = -b := by omega
    rw [e]
    clear e
    go_enter Try.func12, Try.ntmps12
    go_wp2_with (go_at_call 11; refine (neg32 _ hb' _).mono ?_; rintro e w' ⟨rfl, rfl⟩)
    go_ret2
    exact ⟨rfl, rfl⟩
  cases h : inr32 (a * b)
  · rw [cut_no32 h]
    rw [inr_no32] at h
    have t := mul_other32 a b ha c0 c1 h
    go_enter Try.func12, Try.ntmps12
    go_wp2
    go_ret2
    exact ⟨rfl, rfl⟩
  · rw [cut_yes32 h]
    rw [inr_iff32] at h
    have t := mul_back a b c0
    go_enter Try.func12, Try.ntmps12
    go_wp2
    go_ret2
    exact ⟨rfl, rfl⟩

theorem fits_any (n : Int) (w : World) :
    Calls Try.prog 25 #[.int .i64 n] w fun e w' => e = .returned (.bool (inr32 n)) ∧ w' = w := by
  cases h : inr32 n
  · rw [inr_no32] at h
    by_cases c : -2147483648 ≤ n
    · have d1 : decide (-2147483648 ≤ n) = true := by simpa using c
      have d2 : decide (n ≤ 2147483647) = false := by simp; omega
      go_enter Try.func25, Try.ntmps25
      go_wp2
      go_ret
      exact ⟨rfl, rfl⟩
    · have d1 : decide (-2147483648 ≤ n) = false := by simp; omega
      go_enter Try.func25, Try.ntmps25
      go_wp2
      go_ret
      exact ⟨rfl, rfl⟩
  · rw [inr_iff32] at h
    have d1 : decide (-2147483648 ≤ n) = true := by simp; omega
    have d2 : decide (n ≤ 2147483647) = true := by simp; omega
    go_enter Try.func25, Try.ntmps25
    go_wp2
    go_ret
    exact ⟨rfl, rfl⟩

theorem small_any (n : Int) (w : World) :
    Calls Try.prog 13 #[.int .i32 (cut32 n), .bool (inr32 n), .int .i64 n] w fun e w' => e = .returned (.bool true) ∧ w' = w := by
  have hf := fun w => fits_any n w
  cases h : inr32 n
  · rw [cut_no32 h]
    rw [h] at hf
    go_enter Try.func13, Try.ntmps13
    go_wp2_with (go_at_call 25; refine (hf _).mono ?_; rintro e w' ⟨rfl, rfl⟩)
    go_ret
    exact ⟨rfl, rfl⟩
  · rw [cut_yes32 h]
    rw [h] at hf
    rw [inr_iff32] at h
    go_enter Try.func13, Try.ntmps13
    go_wp2_with (go_at_call 25; refine (hf _).mono ?_; rintro e w' ⟨rfl, rfl⟩)
    go_ret
    exact ⟨rfl, rfl⟩

theorem small_walk (a b : Int) (ha : inr32 a = true) (hb : inr32 b = true) (w : World) :
    Calls Try.prog 4 #[.int .i32 a, .int .i32 b] w fun e w' => e = .returned (.bool true) ∧ ∃ n, w' = w.drewN n := by
  have c1 := fun w => add32 a b ha hb w
  have c2 := fun w => sub32 a b ha hb w
  have c3 := fun w => mul32 a b ha hb w
  have d1 := fun w => small_any (a + b) w
  have d2 := fun w => small_any (a - b) w
  have d3 := fun w => small_any (a * b) w
  rw [inr_iff32] at ha hb
  have hp : -9223372036854775808 ≤ a * b ∧ a * b ≤ 9223372036854775807 := by
    have h := Int.natAbs_mul a b
    have h2 : a.natAbs * b.natAbs ≤ 2147483648 * 2147483648 := Nat.mul_le_mul (by omega) (by omega)
    omega
  generalize cut32 (a + b) = s1 at c1 d1
  generalize inr32 (a + b) = t1 at c1 d1
  generalize cut32 (a - b) = s2 at c2 d2
  generalize inr32 (a - b) = t2 at c2 d2
  generalize cut32 (a * b) = s3 at c3 d3
  generalize inr32 (a * b) = t3 at c3 d3
  go_enter Try.func4, Try.ntmps4
  go_wp2_with (first | (go_at_call 8; refine (begun_any _).mono ?_; rintro e w' ⟨rfl, n, rfl⟩) | (go_at_call 10; refine (c1 _).mono ?_; rintro e w' ⟨rfl, rfl⟩) | (go_at_call 11; refine (c2 _).mono ?_; rintro e w' ⟨rfl, rfl⟩) | (go_at_call 12; refine (c3 _).mono ?_; rintro e w' ⟨rfl, rfl⟩) | (go_at_call 13; (with_reducible refine (d1 _).mono ?_); rintro e w' ⟨rfl, rfl⟩) | (go_at_call 13; (with_reducible refine (d2 _).mono ?_); rintro e w' ⟨rfl, rfl⟩) | (go_at_call 13; (with_reducible refine (d3 _).mono ?_); rintro e w' ⟨rfl, rfl⟩))
  go_ret
  exact ⟨rfl, _, rfl⟩
end Go.Proofs.Ytaajliecbchklaa
