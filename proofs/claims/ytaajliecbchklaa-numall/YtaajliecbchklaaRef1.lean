/- Contracts of the document's own answer (abacusref1): Size, signed, sum, less, product, times, divided, residue, common. -/
import Derived.Test.YtaajliecbchklaaBegun
namespace Go.Proofs.Ytaajliecbchklaa
open Go.RowKit
set_option linter.unusedVariables false

theorem rSize (n : Int) (hn : inr n = true) (w : World) :
    Calls Try.prog 55 #[.int .i64 n] w fun e w' => e = .returned (.int .u64 (n.natAbs : Nat)) ∧ w' = w := by
  rw [inr_iff] at hn
  by_cases h : n < 0
  all_goals
    go_enter Try.func55, Try.ntmps55
    go_wp2
    go_ret
    exact ⟨ret_int (by first | omega | (simp only [IntKind.wrap_u64]; omega)), rfl⟩

/-- A size with a sign. -/
def sgd (b : Bool) (s : Nat) : Int := if b = true then -(s : Int) else (s : Int)
theorem rSigned (b : Bool) (s : Nat) (hs : s < 18446744073709551616) (w : World) :
    Calls Try.prog 54 #[.bool b, .int .u64 (s : Nat)] w fun e w' => e = .returned (.tuple #[.int .i64 (cut (sgd b s)), .int .i64 (ovr (sgd b s))]) ∧ w' = w := by
  by_cases h1 : 9223372036854775808 < s
  · have hn : inr (sgd b s) = false := by rw [inr_no]; unfold sgd; cases b <;> simp <;> omega
    rw [cut_no hn, ovr_no hn]
    have d1 : decide ((9223372036854775808 : Int) < (s : Int)) = true := by simp; omega
    go_enter Try.func54, Try.ntmps54
    go_wp2
    go_ret2
    exact ⟨rfl, rfl⟩
  have d1 : decide ((9223372036854775808 : Int) < (s : Int)) = false := by simp; omega
  cases b
  · have e : sgd false s = (s : Int) := rfl
    rw [e]
    by_cases h2 : s = 9223372036854775808
    · subst h2
      go_enter Try.func54, Try.ntmps54
      go_wp2
      go_ret2
      exact ⟨rfl, rfl⟩
    · have hi : inr (s : Int) = true := inr_iff.2 (by omega)
      rw [cut_yes hi, ovr_yes hi]
      have d2 : ((s : Int) == 9223372036854775808) = false := by simp; omega
      go_enter Try.func54, Try.ntmps54
      go_wp2
      go_ret2
      exact ⟨rfl, rfl⟩
  · have e : sgd true s = -(s : Int) := rfl
    rw [e]
    have hi : inr (-(s : Int)) = true := inr_iff.2 (by omega)
    rw [cut_yes hi, ovr_yes hi]
    by_cases h2 : s = 9223372036854775808
    · subst h2
      go_enter Try.func54, Try.ntmps54
      go_wp2
      go_ret2
      exact ⟨ret_two (by simp only [IntKind.wrap_u64, wrap64]; omega) rfl, rfl⟩
    · have d2 : ((s : Int) == 9223372036854775808) = false := by simp; omega
      go_enter Try.func54, Try.ntmps54
      go_wp2
      go_ret2
      exact ⟨ret_two (by simp only [IntKind.wrap_u64, wrap64]; omega) rfl, rfl⟩

theorem rSum (x y : Int) (hx : inr x = true) (hy : inr y = true) (w : World) :
    Calls Try.prog 46 #[.int .i64 x, .int .i64 y] w fun e w' => e = .returned (.tuple #[.int .i64 (cut (x + y)), .int .i64 (ovr (x + y))]) ∧ w' = w := by
  rw [inr_iff] at hx hy
  rcases (show y < 0 ∨ y = 0 ∨ 0 < y by omega) with h | h | h
  · have d1 : decide (0 < y) = false := by simp; omega
    have d2 : decide (y < 0) = true := by simp; omega
    cases hi : inr (x + y)
    · rw [cut_no hi, ovr_no hi]
      rw [inr_no] at hi
      have d3 : decide (x < -9223372036854775808 - y) = true := by simp; omega
      go_enter Try.func46, Try.ntmps46
      go_wp2
      go_ret2
      exact ⟨rfl, rfl⟩
    · rw [cut_yes hi, ovr_yes hi]
      rw [inr_iff] at hi
      have d3 : decide (x < -9223372036854775808 - y) = false := by simp; omega
      go_enter Try.func46, Try.ntmps46
      go_wp2
      go_ret2
      exact ⟨rfl, rfl⟩
  · subst h
    have hi : inr (x + 0) = true := inr_iff.2 (by omega)
    rw [cut_yes hi, ovr_yes hi, Int.add_zero]
    clear hi
    go_enter Try.func46, Try.ntmps46
    go_wp2
    go_ret2
    exact ⟨rfl, rfl⟩
  · have d1 : decide (0 < y) = true := by simp; omega
    have d2 : decide (y < 0) = false := by simp; omega
    cases hi : inr (x + y)
    · rw [cut_no hi, ovr_no hi]
      rw [inr_no] at hi
      have d3 : decide (9223372036854775807 - y < x) = true := by simp; omega
      go_enter Try.func46, Try.ntmps46
      go_wp2
      go_ret2
      exact ⟨rfl, rfl⟩
    · rw [cut_yes hi, ovr_yes hi]
      rw [inr_iff] at hi
      have d3 : decide (9223372036854775807 - y < x) = false := by simp; omega
      go_enter Try.func46, Try.ntmps46
      go_wp2
      go_ret2
      exact ⟨rfl, rfl⟩

theorem rLess (x y : Int) (hx : inr x = true) (hy : inr y = true) (w : World) :
    Calls Try.prog 47 #[.int .i64 x, .int .i64 y] w fun e w' => e = .returned (.tuple #[.int .i64 (cut (x - y)), .int .i64 (ovr (x - y))]) ∧ w' = w := by
  rw [inr_iff] at hx hy
  rcases (show y < 0 ∨ y = 0 ∨ 0 < y by omega) with h | h | h
  · have d1 : decide (0 < y) = false := by simp; omega
    have d2 : decide (y < 0) = true := by simp; omega
    cases hi : inr (x - y)
    · rw [cut_no hi, ovr_no hi]
      rw [inr_no] at hi
      have d3 : decide (9223372036854775807 + y < x) = true := by simp; omega
      go_enter Try.func47, Try.ntmps47
      go_wp2
      go_ret2
      exact ⟨rfl, rfl⟩
    · rw [cut_yes hi, ovr_yes hi]
      rw [inr_iff] at hi
      have d3 : decide (9223372036854775807 + y < x) = false := by simp; omega
      go_enter Try.func47, Try.ntmps47
      go_wp2
      go_ret2
      exact ⟨rfl, rfl⟩
  · subst h
    have hi : inr (x - 0) = true := inr_iff.2 (by omega)
    rw [cut_yes hi, ovr_yes hi, Int.sub_zero]
    clear hi
    go_enter Try.func47, Try.ntmps47
    go_wp2
    go_ret2
    exact ⟨rfl, rfl⟩
  · have d1 : decide (0 < y) = true := by simp; omega
    have d2 : decide (y < 0) = false := by simp; omega
    cases hi : inr (x - y)
    · rw [cut_no hi, ovr_no hi]
      rw [inr_no] at hi
      have d3 : decide (x < -9223372036854775808 + y) = true := by simp; omega
      go_enter Try.func47, Try.ntmps47
      go_wp2
      go_ret2
      exact ⟨rfl, rfl⟩
    · rw [cut_yes hi, ovr_yes hi]
      rw [inr_iff] at hi
      have d3 : decide (x < -9223372036854775808 + y) = false := by simp; omega
      go_enter Try.func47, Try.ntmps47
      go_wp2
      go_ret2
      exact ⟨rfl, rfl⟩

theorem rProductYes (a b : Nat) (ha : a < 18446744073709551616) (hb : b < 18446744073709551616) (h : a * b < 18446744073709551616) (w : World) :
    Calls Try.prog 61 #[.int .u64 (a : Nat), .int .u64 (b : Nat)] w fun e w' => e = .returned (.tuple #[.int .u64 ((a * b : Nat) : Int), .bool true]) ∧ w' = w := by
  by_cases h0 : a = 0
  · subst h0
    rw [Nat.zero_mul]
    go_enter Try.func61, Try.ntmps61
    go_wp2
    go_ret2
    exact ⟨rfl, rfl⟩
  have d0 : ((a : Int) == 0) = false := by simp; omega
  by_cases h1 : b = 0
  · subst h1
    rw [Nat.mul_zero]
    go_enter Try.func61, Try.ntmps61
    go_wp2
    go_ret2
    exact ⟨rfl, rfl⟩
  have d1 : ((b : Int) == 0) = false := by simp; omega
  have hb1 : (1 : Int) ≤ (b : Int) := by omega
  have hle : a ≤ 18446744073709551615 / b := (Nat.le_div_iff_mul_le (by omega)).2 (by omega)
  have d2 : decide ((18446744073709551615 : Int) / (b : Int) < (a : Int)) = false := by
    simp only [decide_eq_false_iff_not, Int.not_lt]
    have : ((18446744073709551615 / b : Nat) : Int) = (18446744073709551615 : Int) / (b : Int) := Int.natCast_ediv _ _
    omega
  have hp : IntKind.u64.wrap ((a : Int) * (b : Int)) = ((a * b : Nat) : Int) := by rw [← Int.natCast_mul, wrapNn _ h]
  have HP : Hid (IntKind.u64.wrap ((a : Int) * (b : Int)) = ((a * b : Nat) : Int)) := hp
  clear hp hle
  go_enter Try.func61, Try.ntmps61
  go_wp2
  go_ret2
  exact ⟨by first | rfl | (rw [← HP.out]; rfl), rfl⟩

theorem rProductNo (a b : Nat) (ha : a < 18446744073709551616) (hb : b < 18446744073709551616) (h : 18446744073709551616 ≤ a * b) (w : World) :
    Calls Try.prog 61 #[.int .u64 (a : Nat), .int .u64 (b : Nat)] w fun e w' => e = .returned (.tuple #[.int .u64 0, .bool false]) ∧ w' = w := by
  have h0 : a ≠ 0 := by intro z; subst z; omega
  have h1 : b ≠ 0 := by intro z; subst z; omega
  have d0 : ((a : Int) == 0) = false := by simp; omega
  have d1 : ((b : Int) == 0) = false := by simp; omega
  have hb1 : (1 : Int) ≤ (b : Int) := by omega
  have hle : 18446744073709551615 / b < a := (Nat.div_lt_iff_lt_mul (by omega)).2 (by omega)
  have d2 : decide ((18446744073709551615 : Int) / (b : Int) < (a : Int)) = true := by
    simp only [decide_eq_true_eq]
    have : ((18446744073709551615 / b : Nat) : Int) = (18446744073709551615 : Int) / (b : Int) := Int.natCast_ediv _ _
    omega
  clear hle
  go_enter Try.func61, Try.ntmps61
  go_wp2
  go_ret2
  exact ⟨rfl, rfl⟩
end Go.Proofs.Ytaajliecbchklaa
