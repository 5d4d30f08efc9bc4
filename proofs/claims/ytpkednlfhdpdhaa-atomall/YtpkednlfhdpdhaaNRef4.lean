
/- Contracts of the document's own answer (abacusref1), continued: power, ways. -/

import Derived.Test.YtpkednlfhdpdhaaNDiv0

import Derived.Test.YtpkednlfhdpdhaaNTable

namespace Go.Proofs.Ytpkednlfhdpdhaa.Nm

open Go.RowKit

set_option linter.unusedVariables false

theorem rSize (n : Int) (hn : inr n = true) (w : World) :
    Calls Try.prog 69 #[.int .i64 n] w fun e w' => e = .returned (.int .u64 (n.natAbs : Nat)) ∧ w' = w := by
  rw [inr_iff] at hn
  by_cases h : n < 0
  all_goals
    go_enter Try.func69, Try.ntmps69
    go_wp2
    go_ret
    exact ⟨ret_int (by first | omega | (simp only [IntKind.wrap_u64]; omega)), rfl⟩

/-- A size with a sign. -/
def sgd (b : Bool) (s : Nat) : Int := if b = true then -(s : Int) else (s : Int)
theorem rSigned (b : Bool) (s : Nat) (hs : s < 18446744073709551616) (w : World) :
    Calls Try.prog 68 #[.bool b, .int .u64 (s : Nat)] w fun e w' => e = .returned (.tuple #[.int .i64 (cut (sgd b s)), .int .i64 (ovr (sgd b s))]) ∧ w' = w := by
  by_cases h1 : 9223372036854775808 < s
  · have hn : inr (sgd b s) = false := by rw [inr_no]; unfold sgd; cases b <;> simp <;> omega
    rw [cut_no hn, ovr_no hn]
    have d1 : decide ((9223372036854775808 : Int) < (s : Int)) = true := by simp; omega
    go_enter Try.func68, Try.ntmps68
    go_wp2
    go_ret2
    exact ⟨rfl, rfl⟩
  have d1 : decide ((9223372036854775808 : Int) < (s : Int)) = false := by simp; omega
  cases b
  · have e : sgd false s = (s : Int) := rfl
    rw [e]
    by_cases h2 : s = 9223372036854775808
    · subst h2
      go_enter Try.func68, Try.ntmps68
      go_wp2
      go_ret2
      exact ⟨rfl, rfl⟩
    · have hi : inr (s : Int) = true := inr_iff.2 (by omega)
      rw [cut_yes hi, ovr_yes hi]
      have d2 : ((s : Int) == 9223372036854775808) = false := by simp; omega
      go_enter Try.func68, Try.ntmps68
      go_wp2
      go_ret2
      exact ⟨rfl, rfl⟩
  · have e : sgd true s = -(s : Int) := rfl
    rw [e]
    have hi : inr (-(s : Int)) = true := inr_iff.2 (by omega)
    rw [cut_yes hi, ovr_yes hi]
    by_cases h2 : s = 9223372036854775808
    · subst h2
      go_enter Try.func68, Try.ntmps68
      go_wp2
      go_ret2
      exact ⟨ret_two (by simp only [IntKind.wrap_u64, wrap64]; omega) rfl, rfl⟩
    · have d2 : ((s : Int) == 9223372036854775808) = false := by simp; omega
      go_enter Try.func68, Try.ntmps68
      go_wp2
      go_ret2
      exact ⟨ret_two (by simp only [IntKind.wrap_u64, wrap64]; omega) rfl, rfl⟩

theorem rSum (x y : Int) (hx : inr x = true) (hy : inr y = true) (w : World) :
    Calls Try.prog 70 #[.int .i64 x, .int .i64 y] w fun e w' => e = .returned (.tuple #[.int .i64 (cut (x + y)), .int .i64 (ovr (x + y))]) ∧ w' = w := by
  rw [inr_iff] at hx hy
  rcases (show y < 0 ∨ y = 0 ∨ 0 < y by omega) with h | h | h
  · have d1 : decide (0 < y) = false := by simp; omega
    have d2 : decide (y < 0) = true := by simp; omega
    cases hi : inr (x + y)
    · rw [cut_no hi, ovr_no hi]
      rw [inr_no] at hi
      have d3 : decide (x < -9223372036854775808 - y) = true := by simp; omega
      go_enter Try.func70, Try.ntmps70
      go_wp2
      go_ret2
      exact ⟨rfl, rfl⟩
    · rw [cut_yes hi, ovr_yes hi]
      rw [inr_iff] at hi
      have d3 : decide (x < -9223372036854775808 - y) = false := by simp; omega
      go_enter Try.func70, Try.ntmps70
      go_wp2
      go_ret2
      exact ⟨rfl, rfl⟩
  · subst h
    have hi : inr (x + 0) = true := inr_iff.2 (by omega)
    rw [cut_yes hi, ovr_yes hi, Int.add_zero]
    clear hi
    go_enter Try.func70, Try.ntmps70
    go_wp2
    go_ret2
    exact ⟨rfl, rfl⟩
  · have d1 : decide (0 < y) = true := by simp; omega
    have d2 : decide (y < 0) = false := by simp; omega
    cases hi : inr (x + y)
    · rw [cut_no hi, ovr_no hi]
      rw [inr_no] at hi
      have d3 : decide (9223372036854775807 - y < x) = true := by simp; omega
      go_enter Try.func70, Try.ntmps70
      go_wp2
      go_ret2
      exact ⟨rfl, rfl⟩
    · rw [cut_yes hi, ovr_yes hi]
      rw [inr_iff] at hi
      have d3 : decide (9223372036854775807 - y < x) = false := by simp; omega
      go_enter Try.func70, Try.ntmps70
      go_wp2
      go_ret2
      exact ⟨rfl, rfl⟩

theorem rLess (x y : Int) (hx : inr x = true) (hy : inr y = true) (w : World) :
    Calls Try.prog 67 #[.int .i64 x, .int .i64 y] w fun e w' => e = .returned (.tuple #[.int .i64 (cut (x - y)), .int .i64 (ovr (x - y))]) ∧ w' = w := by
  rw [inr_iff] at hx hy
  rcases (show y < 0 ∨ y = 0 ∨ 0 < y by omega) with h | h | h
  · have d1 : decide (0 < y) = false := by simp; omega
    have d2 : decide (y < 0) = true := by simp; omega
    cases hi : inr (x - y)
    · rw [cut_no hi, ovr_no hi]
      rw [inr_no] at hi
      have d3 : decide (9223372036854775807 + y < x) = true := by simp; omega
      go_enter Try.func67, Try.ntmps67
      go_wp2
      go_ret2
      exact ⟨rfl, rfl⟩
    · rw [cut_yes hi, ovr_yes hi]
      rw [inr_iff] at hi
      have d3 : decide (9223372036854775807 + y < x) = false := by simp; omega
      go_enter Try.func67, Try.ntmps67
      go_wp2
      go_ret2
      exact ⟨rfl, rfl⟩
  · subst h
    have hi : inr (x - 0) = true := inr_iff.2 (by omega)
    rw [cut_yes hi, ovr_yes hi, Int.sub_zero]
    clear hi
    go_enter Try.func67, Try.ntmps67
    go_wp2
    go_ret2
    exact ⟨rfl, rfl⟩
  · have d1 : decide (0 < y) = true := by simp; omega
    have d2 : decide (y < 0) = false := by simp; omega
    cases hi : inr (x - y)
    · rw [cut_no hi, ovr_no hi]
      rw [inr_no] at hi
      have d3 : decide (x < -9223372036854775808 + y) = true := by simp; omega
      go_enter Try.func67, Try.ntmps67
      go_wp2
      go_ret2
      exact ⟨rfl, rfl⟩
    · rw [cut_yes hi, ovr_yes hi]
      rw [inr_iff] at hi
      have d3 : decide (x < -9223372036854775808 + y) = false := by simp; omega
      go_enter Try.func67, Try.ntmps67
      go_wp2
      go_ret2
      exact ⟨rfl, rfl⟩

theorem rProductYes (a b : Nat) (ha : a < 18446744073709551616) (hb : b < 18446744073709551616) (h : a * b < 18446744073709551616) (w : World) :
    Calls Try.prog 77 #[.int .u64 (a : Nat), .int .u64 (b : Nat)] w fun e w' => e = .returned (.tuple #[.int .u64 ((a * b : Nat) : Int), .bool true]) ∧ w' = w := by
  by_cases h0 : a = 0
  · subst h0
    rw [Nat.zero_mul]
    go_enter Try.func77, Try.ntmps77
    go_wp2
    go_ret2
    exact ⟨rfl, rfl⟩
  have d0 : ((a : Int) == 0) = false := by simp; omega
  by_cases h1 : b = 0
  · subst h1
    rw [Nat.mul_zero]
    go_enter Try.func77, Try.ntmps77
    go_wp2
    go_ret2
    exact ⟨rfl, rfl⟩
  have d1 : ((b : Int) == 0) = false := by simp; omega
  have hb1 : (1 : Int) ≤ (b : Int) := by omega
  have hle : a ≤ 18446744073709551615 / b := (Nat.le_div_iff_mul_le (by omega)).2 (by omega)
  have d2 : decide ((18446744073709551615 : Int) / (b : Int) < (a : Int)) = false := by
    simp only [decide_eq_false_iff_not, Int.not_lt]
    have : ((18446744073709551615 / b : Nat) : Int) = (18446744073709551615 : Int) / (b : Int) := Int.natCast_ediv _ _
    omega
  have hp : IntKind.u64.wrap ((a : Int) * (b : Int)) = ((a * b : Nat) : Int) := by rw [← Int.natCast_mul, wrapNn _ h]
  have HP : Hid (IntKind.u64.wrap ((a : Int) * (b : Int)) = ((a * b : Nat) : Int)) := hp
  clear hp hle
  go_enter Try.func77, Try.ntmps77
  go_wp2
  go_ret2
  exact ⟨by first | rfl | (rw [← HP.out]; rfl), rfl⟩

theorem rProductNo (a b : Nat) (ha : a < 18446744073709551616) (hb : b < 18446744073709551616) (h : 18446744073709551616 ≤ a * b) (w : World) :
    Calls Try.prog 77 #[.int .u64 (a : Nat), .int .u64 (b : Nat)] w fun e w' => e = .returned (.tuple #[.int .u64 0, .bool false]) ∧ w' = w := by
  have h0 : a ≠ 0 := by intro z; subst z; omega
  have h1 : b ≠ 0 := by intro z; subst z; omega
  have d0 : ((a : Int) == 0) = false := by simp; omega
  have d1 : ((b : Int) == 0) = false := by simp; omega
  have hb1 : (1 : Int) ≤ (b : Int) := by omega
  have hle : 18446744073709551615 / b < a := (Nat.div_lt_iff_lt_mul (by omega)).2 (by omega)
  have d2 : decide ((18446744073709551615 : Int) / (b : Int) < (a : Int)) = true := by
    simp only [decide_eq_true_eq]
    have : ((18446744073709551615 / b : Nat) : Int) = (18446744073709551615 : Int) / (b : Int) := Int.natCast_ediv _ _
    omega
  clear hle
  go_enter Try.func77, Try.ntmps77
  go_wp2
  go_ret2
  exact ⟨rfl, rfl⟩
end Go.Proofs.Ytpkednlfhdpdhaa.Nm

namespace Go.Proofs.Ytpkednlfhdpdhaa.Nm

open Go.RowKit

set_option linter.unusedVariables false

/-- The sign of a product, and its size. -/
theorem sgd_mul (x y : Int) : sgd (decide (x < 0) != decide (y < 0)) (x.natAbs * y.natAbs) = x * y := by
  rw [← Int.natAbs_mul]
  unfold sgd
  rcases Int.lt_or_le x 0 with h1 | h1 <;> rcases Int.lt_or_le y 0 with h2 | h2
  · have := Int.mul_pos_of_neg_of_neg h1 h2
    simp [h1, h2]; omega
  · have := Int.mul_nonpos_of_nonpos_of_nonneg (a := x) (b := y) (by omega) h2
    have e1 : decide (x < 0) = true := by simpa using h1
    have e2 : decide (y < 0) = false := by simp; omega
    rw [e1, e2, if_pos (by rfl)]; omega
  · have := Int.mul_nonpos_of_nonneg_of_nonpos (a := x) (b := y) h1 (by omega)
    have e1 : decide (x < 0) = false := by simp; omega
    have e2 : decide (y < 0) = true := by simpa using h2
    rw [e1, e2, if_pos (by rfl)]; omega
  · have := Int.mul_nonneg h1 h2
    have e1 : decide (x < 0) = false := by simp; omega
    have e2 : decide (y < 0) = false := by simp; omega
    rw [e1, e2, if_neg (by decide)]; omega

theorem rTimes (x y : Int) (hx : inr x = true) (hy : inr y = true) (w : World) :
    Calls Try.prog 71 #[.int .i64 x, .int .i64 y] w fun e w' => e = .returned (.tuple #[.int .i64 (cut (x * y)), .int .i64 (ovr (x * y))]) ∧ w' = w := by
  have sx := fun w => rSize x hx w
  have sy := fun w => rSize y hy w
  have hm := sgd_mul x y
  have ha := Int.natAbs_mul x y
  rw [inr_iff] at hx hy
  by_cases h : x.natAbs * y.natAbs < 18446744073709551616
  · have cp := fun w => rProductYes x.natAbs y.natAbs (by omega) (by omega) h w
    have cs := fun b w => rSigned b (x.natAbs * y.natAbs) h w
    have cs1 := cs (decide (x < 0) != decide (y < 0))
    rw [hm] at cs1
    clear hm ha h cs
    generalize x.natAbs * y.natAbs = P at *
    generalize cut (x * y) = N at *
    generalize ovr (x * y) = E at *
    rcases Int.lt_or_le x 0 with h1 | h1 <;> rcases Int.lt_or_le y 0 with h2 | h2
    · have e1 : decide (x < 0) = true := by simpa using h1
      have e2 : decide (y < 0) = true := by simpa using h2
      have cs2 : ∀ w, Calls Try.prog 68 #[.bool false, .int .u64 (P : Nat)] w fun e w' => e = .returned (.tuple #[.int .i64 N, .int .i64 E]) ∧ w' = w := by rw [e1, e2] at cs1; exact cs1
      clear cs1
      go_enter Try.func71, Try.ntmps71
      go_wp2_with (first | (go_at_call 69; (with_reducible refine (sx _).mono ?_); rintro e w' ⟨rfl, rfl⟩) | (go_at_call 69; (with_reducible refine (sy _).mono ?_); rintro e w' ⟨rfl, rfl⟩) | (go_at_call 77; refine (cp _).mono ?_; rintro e w' ⟨rfl, rfl⟩) | (go_at_call 68; refine (cs2 _).mono ?_; rintro e w' ⟨rfl, rfl⟩))
      go_ret2
      exact ⟨rfl, rfl⟩
    · have e1 : decide (x < 0) = true := by simpa using h1
      have e2 : decide (y < 0) = false := by simp; omega
      have cs2 : ∀ w, Calls Try.prog 68 #[.bool true, .int .u64 (P : Nat)] w fun e w' => e = .returned (.tuple #[.int .i64 N, .int .i64 E]) ∧ w' = w := by rw [e1, e2] at cs1; exact cs1
      clear cs1
      go_enter Try.func71, Try.ntmps71
      go_wp2_with (first | (go_at_call 69; (with_reducible refine (sx _).mono ?_); rintro e w' ⟨rfl, rfl⟩) | (go_at_call 69; (with_reducible refine (sy _).mono ?_); rintro e w' ⟨rfl, rfl⟩) | (go_at_call 77; refine (cp _).mono ?_; rintro e w' ⟨rfl, rfl⟩) | (go_at_call 68; refine (cs2 _).mono ?_; rintro e w' ⟨rfl, rfl⟩))
      go_ret2
      exact ⟨rfl, rfl⟩
    · have e1 : decide (x < 0) = false := by simp; omega
      have e2 : decide (y < 0) = true := by simpa using h2
      have cs2 : ∀ w, Calls Try.prog 68 #[.bool true, .int .u64 (P : Nat)] w fun e w' => e = .returned (.tuple #[.int .i64 N, .int .i64 E]) ∧ w' = w := by rw [e1, e2] at cs1; exact cs1
      clear cs1
      go_enter Try.func71, Try.ntmps71
      go_wp2_with (first | (go_at_call 69; (with_reducible refine (sx _).mono ?_); rintro e w' ⟨rfl, rfl⟩) | (go_at_call 69; (with_reducible refine (sy _).mono ?_); rintro e w' ⟨rfl, rfl⟩) | (go_at_call 77; refine (cp _).mono ?_; rintro e w' ⟨rfl, rfl⟩) | (go_at_call 68; refine (cs2 _).mono ?_; rintro e w' ⟨rfl, rfl⟩))
      go_ret2
      exact ⟨rfl, rfl⟩
    · have e1 : decide (x < 0) = false := by simp; omega
      have e2 : decide (y < 0) = false := by simp; omega
      have cs2 : ∀ w, Calls Try.prog 68 #[.bool false, .int .u64 (P : Nat)] w fun e w' => e = .returned (.tuple #[.int .i64 N, .int .i64 E]) ∧ w' = w := by rw [e1, e2] at cs1; exact cs1
      clear cs1
      go_enter Try.func71, Try.ntmps71
      go_wp2_with (first | (go_at_call 69; (with_reducible refine (sx _).mono ?_); rintro e w' ⟨rfl, rfl⟩) | (go_at_call 69; (with_reducible refine (sy _).mono ?_); rintro e w' ⟨rfl, rfl⟩) | (go_at_call 77; refine (cp _).mono ?_; rintro e w' ⟨rfl, rfl⟩) | (go_at_call 68; refine (cs2 _).mono ?_; rintro e w' ⟨rfl, rfl⟩))
      go_ret2
      exact ⟨rfl, rfl⟩
  · have cp := fun w => rProductNo x.natAbs y.natAbs (by omega) (by omega) (by omega) w
    have hn : inr (x * y) = false := by rw [inr_no]; omega
    rw [cut_no hn, ovr_no hn]
    clear hm ha h hn
    go_enter Try.func71, Try.ntmps71
    go_wp2_with (first | (go_at_call 69; (with_reducible refine (sx _).mono ?_); rintro e w' ⟨rfl, rfl⟩) | (go_at_call 69; (with_reducible refine (sy _).mono ?_); rintro e w' ⟨rfl, rfl⟩) | (go_at_call 77; refine (cp _).mono ?_; rintro e w' ⟨rfl, rfl⟩))
    go_ret2
    exact ⟨rfl, rfl⟩

theorem rCommon (a b : Nat) (ha : a < 18446744073709551616) (hb : b < 18446744073709551616) (w : World) :
    Calls Try.prog 76 #[.int .u64 (a : Nat), .int .u64 (b : Nat)] w fun e w' => e = .returned (.int .u64 (Nat.gcd a b : Nat)) ∧ ∃ n, w' = w.drewN n := by
  go_enter Try.func76, Try.ntmps76
  go_wp2
  go_loopw [0, 1] (fun x y wr => ∃ A B : Nat, x = .int .u64 (A : Nat) ∧ y = .int .u64 (B : Nat) ∧ A < 18446744073709551616 ∧ B < 18446744073709551616 ∧ Nat.gcd A B = Nat.gcd a b ∧ ∃ n, wr = w.drewN n) (fun _ y _ => (intOf y).toNat)
  case atStart => exact ⟨a, b, rfl, rfl, ha, hb, rfl, 0, rfl⟩
  case round =>
    obtain ⟨A, B, rfl, rfl, hA, hB, hg, n, rfl⟩ := hrel
    by_cases h0 : B = 0
    · subst h0
      rw [Nat.gcd_zero_right] at hg
      go_wp2
      go_ret
      exact ⟨ret_int (by rw [hg]), n, rfl⟩
    · have t : ((B : Int) != 0) = true := by simp; omega
      have hg' : Hid (Nat.gcd B (A % B) = Nat.gcd a b) := by show _ = _; rw [← hg, Nat.gcd_comm A B, Nat.gcd_rec B A, Nat.gcd_comm]
      have hm := Nat.mod_lt A (Nat.pos_of_ne_zero h0)
      clear hg
      go_wp2
      go_quiet (fail)
      go_wp2
      go_roundw
      case rel => exact ⟨B, A % B, rfl, by go_num, hB, by omega, hg'.out, n + nq, by simp⟩
      case measure => simp [intOf]; omega

theorem rFactorial (y : Int) (hy : inr y = true) (w : World) :
    Calls Try.prog 72 #[.int .i64 y] w fun e w' => e = .returned (.tuple #[.int .i64 (factN y), .int .i64 (factE y)]) ∧ w' = w := by
  rw [inr_iff] at hy
  by_cases c0 : y < 0
  · have e : factN y = 0 := by unfold factN; rw [if_pos c0]
    have e2 : factE y = 10 := by unfold factE; rw [if_pos c0]
    rw [e, e2]
    go_enter Try.func72, Try.ntmps72
    go_wp2
    go_ret2
    exact ⟨rfl, rfl⟩
  have e : factN y = cut (fact y.toNat) := by unfold factN; rw [if_neg c0]
  have e2 : factE y = ovr (fact y.toNat) := by unfold factE; rw [if_neg c0]
  rw [e, e2]
  clear e e2
  go_enter Try.func72, Try.ntmps72
  go_wp2
  go_loop [4, 5] (fun p i => ∃ k : Nat, 1 ≤ k ∧ k ≤ 20 ∧ (k ≤ y.toNat ∨ k = 1) ∧ i = .int .i64 ((k : Int) + 1) ∧ p = .int .i64 (fact k : Nat)) (fun _ i => (22 - intOf i).toNat)
  case atStart => exact ⟨1, by omega, by omega, by omega, rfl, rfl⟩
  case round =>
    obtain ⟨k, hk1, hk2, hk3, rfl, rfl⟩ := hrel
    by_cases hlt : (k : Int) + 1 ≤ y
    · have hm : (fact k : Int) * ((k : Int) + 1) = (fact (k + 1) : Nat) := by
        rw [show fact (k + 1) = (k + 1) * fact k from rfl, Int.natCast_mul, Int.mul_comm]; rfl
      have hr := fun w => rTimes (fact k : Nat) ((k : Int) + 1) (fact_small (by omega)) (inr_iff.2 (by omega)) w
      rw [hm] at hr
      clear hm
      by_cases h20 : k = 20
      · have hg : Hid (inr (fact y.toNat) = false) := fact_great (by omega)
        subst h20
        have hg2 := fact_great (n := 20 + 1) (by omega)
        rw [cut_no hg2, ovr_no hg2] at hr
        clear hg2
        go_wp2_with (go_at_call 71; refine (hr _).mono ?_; rintro e w' ⟨rfl, rfl⟩)
        go_ret2
        exact ⟨ret_two (cut_no hg.out).symm (ovr_no hg.out).symm, rfl⟩
      · have hs := fact_small (n := k + 1) (by omega)
        rw [cut_yes hs, ovr_yes hs] at hr
        clear hs
        go_wp2_with (go_at_call 71; refine (hr _).mono ?_; rintro e w' ⟨rfl, rfl⟩)
        go_round
        case rel => exact ⟨k + 1, by omega, by omega, by omega, by go_num, rfl⟩
        case measure => simp [intOf]; omega
    · have hf : Hid (fact k = fact y.toNat) := by
        show _ = _
        rcases hk3 with h | h
        · rw [show k = y.toNat by omega]
        · subst h
          rcases (show y.toNat = 0 ∨ y.toNat = 1 by omega) with h | h <;> rw [h] <;> rfl
      have hs : Hid (inr (fact k : Nat) = true) := fact_small (by omega)
      go_wp2
      go_ret2
      exact ⟨ret_two (by rw [← hf.out, cut_yes hs.out]) (by rw [← hf.out, ovr_yes hs.out]), rfl⟩
end Go.Proofs.Ytpkednlfhdpdhaa.Nm

namespace Go.Proofs.Ytpkednlfhdpdhaa.Nm

open Go.RowKit

set_option linter.unusedVariables false

theorem tdiv_signs (a b : Nat) : (a : Int).tdiv (b : Int) = ((a / b : Nat) : Int) ∧ (-(a : Int)).tdiv (b : Int) = -((a / b : Nat) : Int) ∧ (a : Int).tdiv (-(b : Int)) = -((a / b : Nat) : Int) ∧ (-(a : Int)).tdiv (-(b : Int)) = ((a / b : Nat) : Int) := by
  have h : (a : Int).tdiv (b : Int) = ((a / b : Nat) : Int) := (Int.ofNat_tdiv a b).symm
  refine ⟨h, ?_, ?_, ?_⟩
  · rw [Int.neg_tdiv, h]
  · rw [Int.tdiv_neg, h]
  · rw [Int.neg_tdiv, Int.tdiv_neg, h]; omega
theorem tmod_size {x y : Int} : x.tmod y = 0 ↔ x.natAbs % y.natAbs = 0 := by
  constructor
  · intro h
    exact Nat.mod_eq_zero_of_dvd (Int.natAbs_dvd_natAbs.2 (Int.dvd_of_tmod_eq_zero h))
  · intro h
    exact Int.tmod_eq_zero_of_dvd (Int.natAbs_dvd_natAbs.1 (Nat.dvd_of_mod_eq_zero h))
theorem tdiv_size (x y : Int) : ((x < 0 ↔ y < 0) → x.tdiv y = ((x.natAbs / y.natAbs : Nat) : Int)) ∧ (¬ (x < 0 ↔ y < 0) → x.tdiv y = -((x.natAbs / y.natAbs : Nat) : Int)) := by
  obtain ⟨t1, t2, t3, t4⟩ := tdiv_signs x.natAbs y.natAbs
  rcases Int.lt_or_le x 0 with h1 | h1 <;> rcases Int.lt_or_le y 0 with h2 | h2
  · have ex : x = -(x.natAbs : Int) := by omega
    have ey : y = -(y.natAbs : Int) := by omega
    exact ⟨fun _ => by rw [← t4, ← ex, ← ey], fun h => absurd (by omega) h⟩
  · have ex : x = -(x.natAbs : Int) := by omega
    have ey : y = (y.natAbs : Int) := by omega
    exact ⟨fun h => absurd h (by omega), fun _ => by rw [← t2, ← ex, ← ey]⟩
  · have ex : x = (x.natAbs : Int) := by omega
    have ey : y = -(y.natAbs : Int) := by omega
    exact ⟨fun h => absurd h (by omega), fun _ => by rw [← t3, ← ex, ← ey]⟩
  · have ex : x = (x.natAbs : Int) := by omega
    have ey : y = (y.natAbs : Int) := by omega
    exact ⟨fun _ => by rw [← t1, ← ex, ← ey], fun h => absurd (by omega) h⟩
theorem fdiv_size_same {x y : Int} (hy : y ≠ 0) (h : x < 0 ↔ y < 0) : x.fdiv y = ((x.natAbs / y.natAbs : Nat) : Int) := by
  rw [fdiv_same (Or.inr h) hy, (tdiv_size x y).1 h]
theorem fdiv_size_whole {x y : Int} (hy : y ≠ 0) (h : ¬ (x < 0 ↔ y < 0)) (hr : x.natAbs % y.natAbs = 0) : x.fdiv y = -((x.natAbs / y.natAbs : Nat) : Int) := by
  rw [fdiv_same (Or.inl (tmod_size.2 hr)) hy, (tdiv_size x y).2 h]
theorem fdiv_size_rest {x y : Int} (hy : y ≠ 0) (h : ¬ (x < 0 ↔ y < 0)) (hr : x.natAbs % y.natAbs ≠ 0) : x.fdiv y = -(((x.natAbs / y.natAbs : Nat) : Int) + 1) := by
  rw [fdiv_less (fun z => hr (tmod_size.1 z)) h hy, (tdiv_size x y).2 h]; omega

/-- The sizes' quotient, where a size is not 0. -/
theorem size_quo {a b : Nat} (ha : a < 18446744073709551616) (hb : b ≠ 0) : IntKind.u64.wrap ((a : Int) / (b : Int)) = ((a / b : Nat) : Int) := by
  have := Nat.div_le_self a b
  rw [← Int.natCast_ediv, wrapNn _ (by omega)]

theorem rDivided (x y : Int) (hx : inr x = true) (hy : inr y = true) (w : World) :
    Calls Try.prog 74 #[.int .i64 x, .int .i64 y] w fun e w' => e = .returned (.tuple #[.int .i64 (divN x y), .int .i64 (divE x y)]) ∧ w' = w := by
  have sx := fun w => rSize x hx w
  have sy := fun w => rSize y hy w
  rw [inr_iff] at hx hy
  by_cases c0 : y = 0
  · subst c0
    have e : divN x 0 = 0 := rfl
    have e2 : divE x 0 = 10 := rfl
    rw [e, e2]
    go_enter Try.func74, Try.ntmps74
    go_wp2
    go_ret2
    exact ⟨rfl, rfl⟩
  have eN : divN x y = cut (x.fdiv y) := by unfold divN; rw [if_neg c0]
  have eE : divE x y = ovr (x.fdiv y) := by unfold divE; rw [if_neg c0]
  rw [eN, eE]
  clear eN eE
  have c1 : (y == 0) = false := by simp [c0]
  have fs := @fdiv_size_same x y c0
  have fw := @fdiv_size_whole x y c0
  have fr := @fdiv_size_rest x y c0
  have hq := size_quo (a := x.natAbs) (b := y.natAbs) (by omega) (by omega)
  have hbnd := Nat.div_le_self x.natAbs y.natAbs
  have hy1 : (1 : Int) ≤ (y.natAbs : Int) := by omega
  have hax : x.natAbs < 9223372036854775809 := by omega
  have hrem : ((x.natAbs : Int) % (y.natAbs : Int)) = ((x.natAbs % y.natAbs : Nat) : Int) := (Int.natCast_emod _ _).symm
  have hquo : ((x.natAbs : Int) / (y.natAbs : Int)) = ((x.natAbs / y.natAbs : Nat) : Int) := (Int.natCast_ediv _ _).symm
  generalize hA : x.natAbs = A at *
  generalize hB : y.natAbs = B at *
  generalize A / B = Q at *
  generalize A % B = R at *
  generalize x.fdiv y = F at *
  clear hA hB
  rcases Int.lt_or_le x 0 with h1 | h1 <;> rcases Int.lt_or_le y 0 with h2 | h2
  · have e1 : decide (x < 0) = true := by simpa using h1
    have e2 : decide (y < 0) = true := by simpa using h2
    have f := fs (by omega)
    have cs := fun w => rSigned false Q (by omega) w
    rw [show sgd false Q = F by rw [f]; rfl] at cs
    clear fs fw fr f
    go_enter Try.func74, Try.ntmps74
    go_wp2_with (first | (go_at_call 69; (with_reducible refine (sx _).mono ?_); rintro e w' ⟨rfl, rfl⟩) | (go_at_call 69; (with_reducible refine (sy _).mono ?_); rintro e w' ⟨rfl, rfl⟩) | (go_at_call 68; refine (cs _).mono ?_; rintro e w' ⟨rfl, rfl⟩))
    go_ret2
    exact ⟨rfl, rfl⟩
  · have e1 : decide (x < 0) = true := by simpa using h1
    have e2 : decide (y < 0) = false := by simp; omega
    by_cases hR : R = 0
    · have f := fw (by omega) hR
      have t1 : ((R : Int) != 0) = false := by simp [hR]
      by_cases hQ : Q = 0
      · have cs := fun w => rSigned false Q (by omega) w
        rw [show sgd false Q = F by rw [f, hQ]; rfl] at cs
        have t2 : decide (0 < Q) = false := by simp; omega
        clear fs fw fr f hR hQ
        go_enter Try.func74, Try.ntmps74
        go_wp2_with (first | (go_at_call 69; (with_reducible refine (sx _).mono ?_); rintro e w' ⟨rfl, rfl⟩) | (go_at_call 69; (with_reducible refine (sy _).mono ?_); rintro e w' ⟨rfl, rfl⟩) | (go_at_call 68; refine (cs _).mono ?_; rintro e w' ⟨rfl, rfl⟩))
        go_ret2
        exact ⟨rfl, rfl⟩
      · have cs := fun w => rSigned true Q (by omega) w
        rw [show sgd true Q = F by rw [f]; rfl] at cs
        have t2 : decide (0 < Q) = true := by simp; omega
        clear fs fw fr f hR
        go_enter Try.func74, Try.ntmps74
        go_wp2_with (first | (go_at_call 69; (with_reducible refine (sx _).mono ?_); rintro e w' ⟨rfl, rfl⟩) | (go_at_call 69; (with_reducible refine (sy _).mono ?_); rintro e w' ⟨rfl, rfl⟩) | (go_at_call 68; refine (cs _).mono ?_; rintro e w' ⟨rfl, rfl⟩))
        go_ret2
        exact ⟨rfl, rfl⟩
    · have f := fr (by omega) hR
      have t1 : ((R : Int) != 0) = true := by simp; omega
      have cs := fun w => rSigned true (Q + 1) (by omega) w
      rw [show sgd true (Q + 1) = F by rw [f]; rfl, show ((Q + 1 : Nat) : Int) = (Q : Int) + 1 by omega] at cs
      have t2 : decide ((0 : Int) < (Q : Int) + 1) = true := by simp only [decide_eq_true_eq]; omega
      clear fs fw fr f
      go_enter Try.func74, Try.ntmps74
      go_wp2_with (first | (go_at_call 69; (with_reducible refine (sx _).mono ?_); rintro e w' ⟨rfl, rfl⟩) | (go_at_call 69; (with_reducible refine (sy _).mono ?_); rintro e w' ⟨rfl, rfl⟩) | (go_at_call 68; refine (cs _).mono ?_; rintro e w' ⟨rfl, rfl⟩))
      go_ret2
      exact ⟨rfl, rfl⟩
  · have e1 : decide (x < 0) = false := by simp; omega
    have e2 : decide (y < 0) = true := by simpa using h2
    by_cases hR : R = 0
    · have f := fw (by omega) hR
      have t1 : ((R : Int) != 0) = false := by simp [hR]
      by_cases hQ : Q = 0
      · have cs := fun w => rSigned false Q (by omega) w
        rw [show sgd false Q = F by rw [f, hQ]; rfl] at cs
        have t2 : decide (0 < Q) = false := by simp; omega
        clear fs fw fr f hR hQ
        go_enter Try.func74, Try.ntmps74
        go_wp2_with (first | (go_at_call 69; (with_reducible refine (sx _).mono ?_); rintro e w' ⟨rfl, rfl⟩) | (go_at_call 69; (with_reducible refine (sy _).mono ?_); rintro e w' ⟨rfl, rfl⟩) | (go_at_call 68; refine (cs _).mono ?_; rintro e w' ⟨rfl, rfl⟩))
        go_ret2
        exact ⟨rfl, rfl⟩
      · have cs := fun w => rSigned true Q (by omega) w
        rw [show sgd true Q = F by rw [f]; rfl] at cs
        have t2 : decide (0 < Q) = true := by simp; omega
        clear fs fw fr f hR
        go_enter Try.func74, Try.ntmps74
        go_wp2_with (first | (go_at_call 69; (with_reducible refine (sx _).mono ?_); rintro e w' ⟨rfl, rfl⟩) | (go_at_call 69; (with_reducible refine (sy _).mono ?_); rintro e w' ⟨rfl, rfl⟩) | (go_at_call 68; refine (cs _).mono ?_; rintro e w' ⟨rfl, rfl⟩))
        go_ret2
        exact ⟨rfl, rfl⟩
    · have f := fr (by omega) hR
      have t1 : ((R : Int) != 0) = true := by simp; omega
      have cs := fun w => rSigned true (Q + 1) (by omega) w
      rw [show sgd true (Q + 1) = F by rw [f]; rfl, show ((Q + 1 : Nat) : Int) = (Q : Int) + 1 by omega] at cs
      have t2 : decide ((0 : Int) < (Q : Int) + 1) = true := by simp only [decide_eq_true_eq]; omega
      clear fs fw fr f
      go_enter Try.func74, Try.ntmps74
      go_wp2_with (first | (go_at_call 69; (with_reducible refine (sx _).mono ?_); rintro e w' ⟨rfl, rfl⟩) | (go_at_call 69; (with_reducible refine (sy _).mono ?_); rintro e w' ⟨rfl, rfl⟩) | (go_at_call 68; refine (cs _).mono ?_; rintro e w' ⟨rfl, rfl⟩))
      go_ret2
      exact ⟨rfl, rfl⟩
  · have e1 : decide (x < 0) = false := by simp; omega
    have e2 : decide (y < 0) = false := by simp; omega
    have f := fs (by omega)
    have cs := fun w => rSigned false Q (by omega) w
    rw [show sgd false Q = F by rw [f]; rfl] at cs
    clear fs fw fr f
    go_enter Try.func74, Try.ntmps74
    go_wp2_with (first | (go_at_call 69; (with_reducible refine (sx _).mono ?_); rintro e w' ⟨rfl, rfl⟩) | (go_at_call 69; (with_reducible refine (sy _).mono ?_); rintro e w' ⟨rfl, rfl⟩) | (go_at_call 68; refine (cs _).mono ?_; rintro e w' ⟨rfl, rfl⟩))
    go_ret2
    exact ⟨rfl, rfl⟩

theorem fmod_size {x y : Int} (hx : x ≠ 0) : y.fmod x = if (y.natAbs % x.natAbs ≠ 0 ∧ ¬ (x < 0 ↔ y < 0)) then (if x < 0 then -((x.natAbs : Int) - (y.natAbs % x.natAbs : Nat)) else (x.natAbs : Int) - (y.natAbs % x.natAbs : Nat)) else (if x < 0 then -((y.natAbs % x.natAbs : Nat) : Int) else ((y.natAbs % x.natAbs : Nat) : Int)) := by
  have h := Int.mul_fdiv_add_fmod y x
  have hdm : x.natAbs * (y.natAbs / x.natAbs) + y.natAbs % x.natAbs = y.natAbs := Nat.div_add_mod _ _
  have hc : ((x.natAbs * (y.natAbs / x.natAbs) : Nat) : Int) = (x.natAbs : Int) * ((y.natAbs / x.natAbs : Nat) : Int) := Int.natCast_mul _ _
  have key : ∀ (f : Int), y.fdiv x = f → y.fmod x = y - x * f := fun f hf => by rw [hf] at h; omega
  generalize hQ : y.natAbs / x.natAbs = Q at *
  generalize hR : y.natAbs % x.natAbs = R at *
  rcases Int.lt_or_le x 0 with h1 | h1
  · have ex : x * (Q : Int) = -((x.natAbs * Q : Nat) : Int) := by
      rw [hc]
      have : x = -(x.natAbs : Int) := by omega
      rw [this, Int.neg_mul]; simp
    rcases Int.lt_or_le y 0 with h2 | h2
    · have g := fdiv_size_same (x := y) (y := x) hx (by omega)
      rw [hQ] at g
      have f := key _ g
      rw [f, ex, if_neg (by omega), if_pos h1]; omega
    · by_cases hr : R = 0
      · have g := fdiv_size_whole (x := y) (y := x) hx (by omega) (by omega)
        rw [hQ] at g
        have f := key _ g
        rw [f, Int.mul_neg, ex, if_neg (by omega), if_pos h1]; omega
      · have g := fdiv_size_rest (x := y) (y := x) hx (by omega) (by omega)
        rw [hQ] at g
        have f := key _ g
        rw [f, Int.mul_neg, Int.mul_add, Int.mul_one, ex, if_pos (by omega), if_pos h1]; omega
  · have ex : x * (Q : Int) = ((x.natAbs * Q : Nat) : Int) := by
      rw [hc]
      have : x = (x.natAbs : Int) := by omega
      rw [← this]
    rcases Int.lt_or_le y 0 with h2 | h2
    · by_cases hr : R = 0
      · have g := fdiv_size_whole (x := y) (y := x) hx (by omega) (by omega)
        rw [hQ] at g
        have f := key _ g
        rw [f, Int.mul_neg, ex, if_neg (by omega), if_neg (by omega)]; omega
      · have g := fdiv_size_rest (x := y) (y := x) hx (by omega) (by omega)
        rw [hQ] at g
        have f := key _ g
        rw [f, Int.mul_neg, Int.mul_add, Int.mul_one, ex, if_pos (by omega), if_neg (by omega)]; omega
    · have g := fdiv_size_same (x := y) (y := x) hx (by omega)
      rw [hQ] at g
      have f := key _ g
      rw [f, ex, if_neg (by omega), if_neg (by omega)]; omega

theorem rResidue (x y : Int) (hx : inr x = true) (hy : inr y = true) (w : World) :
    Calls Try.prog 75 #[.int .i64 x, .int .i64 y] w fun e w' => e = .returned (.int .i64 (y.fmod x)) ∧ w' = w := by
  have sx := fun w => rSize x hx w
  have sy := fun w => rSize y hy w
  rw [inr_iff] at hx hy
  by_cases c0 : x = 0
  · subst c0
    rw [Int.fmod_zero]
    go_enter Try.func75, Try.ntmps75
    go_wp2
    go_ret
    exact ⟨rfl, rfl⟩
  have c1 : (x == 0) = false := by simp [c0]
  rw [fmod_size c0]
  have hrem : ((y.natAbs : Int) % (x.natAbs : Int)) = ((y.natAbs % x.natAbs : Nat) : Int) := (Int.natCast_emod _ _).symm
  have hlt := Nat.mod_lt y.natAbs (show 0 < x.natAbs by omega)
  have hax : x.natAbs < 9223372036854775809 := by omega
  have hx1 : (1 : Int) ≤ (x.natAbs : Int) := by omega
  generalize hB : x.natAbs = B at *
  generalize hA : y.natAbs = A at *
  generalize A % B = R at *
  rcases Int.lt_or_le x 0 with h1 | h1 <;> rcases Int.lt_or_le y 0 with h2 | h2
  · have e1 : decide (x < 0) = true := by simpa using h1
    have e2 : decide (y < 0) = true := by simpa using h2
    by_cases hR : R = 0
    · subst hR
      rw [if_neg (by omega), if_pos h1]
      clear hA hB
      go_enter Try.func75, Try.ntmps75
      go_wp2_with (first | (go_at_call 69; (with_reducible refine (sx _).mono ?_); rintro e w' ⟨rfl, rfl⟩) | (go_at_call 69; (with_reducible refine (sy _).mono ?_); rintro e w' ⟨rfl, rfl⟩))
      go_ret
      exact ⟨ret_int (by first | rfl | omega | (simp only [IntKind.wrap_u64, wrap64]; omega)), rfl⟩
    · have t1 : ((R : Int) != 0) = true := by simp; omega
      rw [if_neg (by omega), if_pos h1]
      clear hA hB
      go_enter Try.func75, Try.ntmps75
      go_wp2_with (first | (go_at_call 69; (with_reducible refine (sx _).mono ?_); rintro e w' ⟨rfl, rfl⟩) | (go_at_call 69; (with_reducible refine (sy _).mono ?_); rintro e w' ⟨rfl, rfl⟩))
      go_ret
      exact ⟨ret_int (by first | rfl | omega | (simp only [IntKind.wrap_u64, wrap64]; omega)), rfl⟩
  · have e1 : decide (x < 0) = true := by simpa using h1
    have e2 : decide (y < 0) = false := by simp; omega
    by_cases hR : R = 0
    · subst hR
      rw [if_neg (by omega), if_pos h1]
      clear hA hB
      go_enter Try.func75, Try.ntmps75
      go_wp2_with (first | (go_at_call 69; (with_reducible refine (sx _).mono ?_); rintro e w' ⟨rfl, rfl⟩) | (go_at_call 69; (with_reducible refine (sy _).mono ?_); rintro e w' ⟨rfl, rfl⟩))
      go_ret
      exact ⟨ret_int (by first | rfl | omega | (simp only [IntKind.wrap_u64, wrap64]; omega)), rfl⟩
    · have t1 : ((R : Int) != 0) = true := by simp; omega
      rw [if_pos (by omega), if_pos h1]
      clear hA hB
      go_enter Try.func75, Try.ntmps75
      go_wp2_with (first | (go_at_call 69; (with_reducible refine (sx _).mono ?_); rintro e w' ⟨rfl, rfl⟩) | (go_at_call 69; (with_reducible refine (sy _).mono ?_); rintro e w' ⟨rfl, rfl⟩))
      go_ret
      exact ⟨ret_int (by first | rfl | omega | (simp only [IntKind.wrap_u64, wrap64]; omega)), rfl⟩
  · have e1 : decide (x < 0) = false := by simp; omega
    have e2 : decide (y < 0) = true := by simpa using h2
    by_cases hR : R = 0
    · subst hR
      rw [if_neg (by omega), if_neg (by omega)]
      clear hA hB
      go_enter Try.func75, Try.ntmps75
      go_wp2_with (first | (go_at_call 69; (with_reducible refine (sx _).mono ?_); rintro e w' ⟨rfl, rfl⟩) | (go_at_call 69; (with_reducible refine (sy _).mono ?_); rintro e w' ⟨rfl, rfl⟩))
      go_ret
      exact ⟨ret_int (by first | rfl | omega | (simp only [IntKind.wrap_u64, wrap64]; omega)), rfl⟩
    · have t1 : ((R : Int) != 0) = true := by simp; omega
      rw [if_pos (by omega), if_neg (by omega)]
      clear hA hB
      go_enter Try.func75, Try.ntmps75
      go_wp2_with (first | (go_at_call 69; (with_reducible refine (sx _).mono ?_); rintro e w' ⟨rfl, rfl⟩) | (go_at_call 69; (with_reducible refine (sy _).mono ?_); rintro e w' ⟨rfl, rfl⟩))
      go_ret
      exact ⟨ret_int (by first | rfl | omega | (simp only [IntKind.wrap_u64, wrap64]; omega)), rfl⟩
  · have e1 : decide (x < 0) = false := by simp; omega
    have e2 : decide (y < 0) = false := by simp; omega
    by_cases hR : R = 0
    · subst hR
      rw [if_neg (by omega), if_neg (by omega)]
      clear hA hB
      go_enter Try.func75, Try.ntmps75
      go_wp2_with (first | (go_at_call 69; (with_reducible refine (sx _).mono ?_); rintro e w' ⟨rfl, rfl⟩) | (go_at_call 69; (with_reducible refine (sy _).mono ?_); rintro e w' ⟨rfl, rfl⟩))
      go_ret
      exact ⟨ret_int (by first | rfl | omega | (simp only [IntKind.wrap_u64, wrap64]; omega)), rfl⟩
    · have t1 : ((R : Int) != 0) = true := by simp; omega
      rw [if_neg (by omega), if_neg (by omega)]
      clear hA hB
      go_enter Try.func75, Try.ntmps75
      go_wp2_with (first | (go_at_call 69; (with_reducible refine (sx _).mono ?_); rintro e w' ⟨rfl, rfl⟩) | (go_at_call 69; (with_reducible refine (sy _).mono ?_); rintro e w' ⟨rfl, rfl⟩))
      go_ret
      exact ⟨ret_int (by first | rfl | omega | (simp only [IntKind.wrap_u64, wrap64]; omega)), rfl⟩
end Go.Proofs.Ytpkednlfhdpdhaa.Nm

namespace Go.Proofs.Ytpkednlfhdpdhaa.Nm

open Go.RowKit

set_option linter.unusedVariables false

theorem sgd_pow (x : Int) (n : Nat) : sgd (decide (x < 0) && (n % 2 == 1)) (x.natAbs ^ n) = x ^ n := by
  have ha := Int.natAbs_pow x n
  rcases Int.lt_or_le x 0 with h | h
  · have e : x = -(x.natAbs : Int) := by omega
    have e1 : decide (x < 0) = true := by simpa using h
    have hp : x ^ n = (-1 : Int) ^ n * ((x.natAbs ^ n : Nat) : Int) := by
      rw [Int.natCast_pow, ← Int.mul_pow]
      congr 1
      omega
    rw [hp, minus_pow, e1]
    unfold sgd
    by_cases c : n % 2 = 0
    · rw [if_pos c]; simp [c]
    · have c1 : n % 2 = 1 := by omega
      rw [if_neg c]; simp [c1]
  · have e : x = (x.natAbs : Int) := by omega
    have e1 : decide (x < 0) = false := by simp; omega
    rw [e1]
    unfold sgd
    simp only [Bool.false_and, Bool.false_eq_true, if_false]
    rw [Int.natCast_pow, ← e]

theorem rPower (x y : Int) (hx : inr x = true) (hy : inr y = true) (w : World) :
    Calls Try.prog 79 #[.int .i64 x, .int .i64 y] w fun e w' => e = .returned (.tuple #[.int .i64 (powN x y), .int .i64 (powE x y)]) ∧ w' = w := by
  have sx := fun w => rSize x hx w
  have sy := fun w => rSize y hy w
  rw [inr_iff] at hx hy
  by_cases c1 : x = 1
  · subst c1
    rw [powN_one, powE_one]
    clear sx sy
    by_cases c3 : y < 0
    · have d3 : decide (y < 0) = true := by simpa using c3
      go_enter Try.func79, Try.ntmps79
      go_wp2
      go_ret2
      exact ⟨rfl, rfl⟩
    · have d3 : decide (y < 0) = false := by simpa using c3
      go_enter Try.func79, Try.ntmps79
      go_wp2
      go_ret2
      exact ⟨rfl, rfl⟩
  have b1 : (x == 1) = false := by simp [c1]
  have b1' : (x != 1) = true := by simp [c1]
  by_cases c2 : x = -1
  · subst c2
    clear sx b1 b1'
    by_cases c0 : y = 0
    · subst c0
      clear sy
      go_enter Try.func79, Try.ntmps79
      go_wp2
      go_ret2
      exact ⟨rfl, rfl⟩
    · rw [powN_minus, powE_minus]
      have d0 : (y == 0) = false := by simp [c0]
      have hv : Hid (1 - 2 * ((y.natAbs : Int) % 2) = 1 - 2 * tr (y % 2 != 0)) := by
        show _ = _
        by_cases c : y % 2 = 0
        · have e : tr (y % 2 != 0) = 0 := by simp [c, tr]
          rw [e]; omega
        · have e : tr (y % 2 != 0) = 1 := by simp [c, tr]
          rw [e]; omega
      by_cases c3 : y < 0
      · have d3 : decide (y < 0) = true := by simpa using c3
        go_enter Try.func79, Try.ntmps79
        go_wp2_with (go_at_call 69; refine (sy _).mono ?_; rintro e w' ⟨rfl, rfl⟩)
        go_ret2
        exact ⟨ret_two hv.out rfl, rfl⟩
      · have d3 : decide (y < 0) = false := by simpa using c3
        go_enter Try.func79, Try.ntmps79
        go_wp2_with (go_at_call 69; refine (sy _).mono ?_; rintro e w' ⟨rfl, rfl⟩)
        go_ret2
        exact ⟨ret_two hv.out rfl, rfl⟩
  have b2 : (x == -1) = false := by simp [c2]
  have b2' : (x != -1) = true := by simp [c2]
  clear sy
  by_cases c3 : y < 0
  · have e : powN x y = 0 := by unfold powN; rw [if_neg (by omega), if_neg c1, if_neg c2]
    have e2 : powE x y = 10 := by unfold powE; rw [if_neg (by omega), if_neg (by omega)]
    rw [e, e2]
    have d3 : decide (y < 0) = true := by simpa using c3
    go_enter Try.func79, Try.ntmps79
    go_wp2
    go_ret2
    exact ⟨rfl, rfl⟩
  have d3 : decide (y < 0) = false := by simpa using c3
  have eN : powN x y = cut (x ^ y.toNat) := by unfold powN; rw [if_pos (by omega)]
  have eE : powE x y = ovr (x ^ y.toNat) := by unfold powE; rw [if_pos (by omega)]
  rw [eN, eE]
  clear eN eE
  by_cases c0 : y = 0
  · subst c0
    rw [show x ^ (0 : Int).toNat = 1 from Int.pow_zero x]
    go_enter Try.func79, Try.ntmps79
    go_wp2
    go_ret2
    exact ⟨rfl, rfl⟩
  have d0 : (y == 0) = false := by simp [c0]
  by_cases c4 : x = 0
  · subst c4
    have e : (0 : Int) ^ y.toNat = 0 := by
      rw [show y.toNat = (y.toNat - 1) + 1 by omega, Int.pow_succ, Int.mul_zero]
    rw [e]
    clear e
    go_enter Try.func79, Try.ntmps79
    go_wp2
    go_ret2
    exact ⟨rfl, rfl⟩
  have b4 : (x == 0) = false := by simp [c4]
  have h2 : 2 ≤ x.natAbs := by omega
  have hax : x.natAbs < 18446744073709551616 := by omega
  clear c0 c1 c2 c4
  go_enter Try.func79, Try.ntmps79
  go_wp2
  go_loop [6, 7] (fun p i => ∃ k : Nat, k ≤ y.toNat ∧ i = .int .i64 (k : Nat) ∧ p = .int .u64 (x.natAbs ^ k : Nat) ∧ x.natAbs ^ k < 18446744073709551616) (fun _ i => y.toNat - (intOf i).toNat)
  case atStart => exact ⟨0, by omega, rfl, rfl, by rw [Nat.pow_zero]; omega⟩
  case round =>
    obtain ⟨k, hk, rfl, rfl, hp⟩ := hrel
    by_cases hlt : (k : Int) < y
    · have hm : Hid (x.natAbs ^ (k + 1) = x.natAbs ^ k * x.natAbs) := Nat.pow_succ _ _
      by_cases hi : x.natAbs ^ k * x.natAbs < 18446744073709551616
      · have cp := fun w => rProductYes (x.natAbs ^ k) x.natAbs hp hax hi w
        have hi' : Hid (x.natAbs ^ (k + 1) < 18446744073709551616) := by show _ < _; rw [hm.out]; exact hi
        clear hi
        generalize x.natAbs ^ k * x.natAbs = M at *
        go_wp2_with (first | (go_at_call 69; refine (sx _).mono ?_; rintro e w' ⟨rfl, rfl⟩) | (go_at_call 77; refine (cp _).mono ?_; rintro e w' ⟨rfl, rfl⟩))
        go_round
        case rel => exact ⟨k + 1, by omega, by go_num, by rw [hm.out], hi'.out⟩
        case measure => simp [intOf]; omega
      · have cp := fun w => rProductNo (x.natAbs ^ k) x.natAbs hp hax (by omega) w
        have ho : Hid (inr (x ^ y.toNat) = false) := by
          refine pow_over h2 (k := k + 1) ?_ (by omega)
          have ha := Int.natAbs_pow x (k + 1)
          rw [hm.out] at ha
          rw [inr_no]; omega
        clear hi
        go_wp2_with (first | (go_at_call 69; refine (sx _).mono ?_; rintro e w' ⟨rfl, rfl⟩) | (go_at_call 77; refine (cp _).mono ?_; rintro e w' ⟨rfl, rfl⟩))
        go_ret2
        exact ⟨ret_two (cut_no ho.out).symm (ovr_no ho.out).symm, rfl⟩
    · have e : k = y.toNat := by omega
      have hs := sgd_pow x k
      have hey : Hid (x ^ k = x ^ y.toNat) := by show _ = _; rw [e]
      have hodd : (y % 2 = 1) ↔ (k % 2 = 1) := by omega
      have fin : ∀ b, b = (decide (x < 0) && (k % 2 == 1)) → ∀ w, Calls Try.prog 68 #[.bool b, .int .u64 (x.natAbs ^ k : Nat)] w fun e w' => e = .returned (.tuple #[.int .i64 (cut (x ^ k)), .int .i64 (ovr (x ^ k))]) ∧ w' = w := by
        intro b hb w
        have := rSigned b (x.natAbs ^ k) hp w
        rw [hb, hs] at this
        rw [hb]
        exact this
      clear hs e
      rcases Int.lt_or_le x 0 with h | h
      · have e1 : decide (x < 0) = true := by simpa using h
        by_cases ho : y % 2 = 1
        · have t1 : (y % 2 == 1) = true := by simp [ho]
          have cs := fin true (by rw [e1]; simp [hodd.1 ho])
          clear fin hodd ho
          generalize x.natAbs ^ k = P at *
          go_wp2_with (go_at_call 68; refine (cs _).mono ?_; rintro e w' ⟨rfl, rfl⟩)
          go_ret2
          exact ⟨ret_two (by rw [hey.out]) (by rw [hey.out]), rfl⟩
        · have t1 : (y % 2 == 1) = false := by simp [ho]
          have cs := fin false (by rw [e1, Bool.true_and]; exact (beq_eq_false_iff_ne.2 (fun z => ho (hodd.2 z))).symm)
          clear fin hodd ho
          generalize x.natAbs ^ k = P at *
          go_wp2_with (go_at_call 68; refine (cs _).mono ?_; rintro e w' ⟨rfl, rfl⟩)
          go_ret2
          exact ⟨ret_two (by rw [hey.out]) (by rw [hey.out]), rfl⟩
      · have e1 : decide (x < 0) = false := by simp; omega
        have cs := fin false (by rw [e1]; rfl)
        clear fin hodd
        generalize x.natAbs ^ k = P at *
        go_wp2_with (go_at_call 68; refine (cs _).mono ?_; rintro e w' ⟨rfl, rfl⟩)
        go_ret2
        exact ⟨ret_two (by rw [hey.out]) (by rw [hey.out]), rfl⟩
end Go.Proofs.Ytpkednlfhdpdhaa.Nm
