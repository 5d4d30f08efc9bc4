/- Contracts of the document's own answer (abacusref1), continued: times, divided, residue, common, factorial, power. -/
import Derived.Test.YtaajliecbchklaaRef1
namespace Go.Proofs.Ytaajliecbchklaa
open Go.RowKit
set_option linter.unusedVariables false

/-- The sign of a product, and its size. -/
theorem sgd_mul (x y : Int) : sgd (decide (x < 0) != decide (y < 0)) (x.natAbs * y.natAbs) = x * y := by
  rw [← Int.natAbs_mul]
  unfold sgd
  rcases Int.lt_or_le x 0 with h1 | h1 <;> rcases Int.lt_or_le y 0 with h2 | h2
  · have := Int.mul_pos_of_neg_of_neg h1 h2
    simp [h1, h2]; omega
  · have := Int.mul_nonpos_of_nonpos_of_nonneg (a := x) (b := y) (by omega) h2
    have e1 : decide (x < 0) = true := by simpa using h1
    have e2 : decide (y < 0) = false := by simp; omega
    rw [e1, e2, if_pos (by rfl)]; omega
  · have := Int.mul_nonpos_of_nonneg_of_nonpos (a := x) (b := y) h1 (by omega)
    have e1 : decide (x < 0) = false := by simp; omega
    have e2 : decide (y < 0) = true := by simpa using h2
    rw [e1, e2, if_pos (by rfl)]; omega
  · have := Int.mul_nonneg h1 h2
    have e1 : decide (x < 0) = false := by simp; omega
    have e2 : decide (y < 0) = false := by simp; omega
    rw [e1, e2, if_neg (by decide)]; omega

theorem rTimes (x y : Int) (hx : inr x = true) (hy : inr y = true) (w : World) :
    Calls Try.prog 48 #[.int .i64 x, .int .i64 y] w fun e w' => e = .returned (.tuple #[.int .i64 (cut (x * y)), .int .i64 (ovr (x * y))]) ∧ w' = w := by
  have sx := fun w => rSize x hx w
  have sy := fun w => rSize y hy w
  have hm := sgd_mul x y
  have ha := Int.natAbs_mul x y
  rw [inr_iff] at hx hy
  by_cases h : x.natAbs * y.natAbs < 18446744073709551616
  · have cp := fun w => rProductYes x.natAbs y.natAbs (by omega) (by omega) h w
    have cs := fun b w => rSigned b (x.natAbs * y.natAbs) h w
    have cs1 := cs (decide (x < 0) != decide (y < 0))
    rw [hm] at cs1
    clear hm ha h cs
    generalize x.natAbs * y.natAbs = P at *
    generalize cut (x * y) = N at *
    generalize ovr (x * y) = E at *
    rcases Int.lt_or_le x 0 with h1 | h1 <;> rcases Int.lt_or_le y 0 with h2 | h2
    · have e1 : decide (x < 0) = true := by simpa using h1
      have e2 : decide (y < 0) = true := by simpa using h2
      have cs2 : ∀ w, Calls Try.prog 54 #[.bool false, .int .u64 (P : Nat)] w fun e w' => e = .returned (.tuple #[.int .i64 N, .int .i64 E]) ∧ w' = w := by rw [e1, e2] at cs1; exact cs1
      clear cs1
      go_enter Try.func48, Try.ntmps48
      go_wp2_with (first | (go_at_call 55; (with_reducible refine (sx _).mono ?_); rintro e w' ⟨rfl, rfl⟩) | (go_at_call 55; (with_reducible refine (sy _).mono ?_); rintro e w' ⟨rfl, rfl⟩) | (go_at_call 61; refine (cp _).mono ?_; rintro e w' ⟨rfl, rfl⟩) | (go_at_call 54; refine (cs2 _).mono ?_; rintro e w' ⟨rfl, rfl⟩))
      go_ret2
      exact ⟨rfl, rfl⟩
    · have e1 : decide (x < 0) = true := by simpa using h1
      have e2 : decide (y < 0) = false := by simp; omega
      have cs2 : ∀ w, Calls Try.prog 54 #[.bool true, .int .u64 (P : Nat)] w fun e w' => e = .returned (.tuple #[.int .i64 N, .int .i64 E]) ∧ w' = w := by rw [e1, e2] at cs1; exact cs1
      clear cs1
      go_enter Try.func48, Try.ntmps48
      go_wp2_with (first | (go_at_call 55; (with_reducible refine (sx _).mono ?_); rintro e w' ⟨rfl, rfl⟩) | (go_at_call 55; (with_reducible refine (sy _).mono ?_); rintro e w' ⟨rfl, rfl⟩) | (go_at_call 61; refine (cp _).mono ?_; rintro e w' ⟨rfl, rfl⟩) | (go_at_call 54; refine (cs2 _).mono ?_; rintro e w' ⟨rfl, rfl⟩))
      go_ret2
      exact ⟨rfl, rfl⟩
    · have e1 : decide (x < 0) = false := by simp; omega
      have e2 : decide (y < 0) = true := by simpa using h2
      have cs2 : ∀ w, Calls Try.prog 54 #[.bool true, .int .u64 (P : Nat)] w fun e w' => e = .returned (.tuple #[.int .i64 N, .int .i64 E]) ∧ w' = w := by rw [e1, e2] at cs1; exact cs1
      clear cs1
      go_enter Try.func48, Try.ntmps48
      go_wp2_with (first | (go_at_call 55; (with_reducible refine (sx _).mono ?_); rintro e w' ⟨rfl, rfl⟩) | (go_at_call 55; (with_reducible refine (sy _).mono ?_); rintro e w' ⟨rfl, rfl⟩) | (go_at_call 61; refine (cp _).mono ?_; rintro e w' ⟨rfl, rfl⟩) | (go_at_call 54; refine (cs2 _).mono ?_; rintro e w' ⟨rfl, rfl⟩))
      go_ret2
      exact ⟨rfl, rfl⟩
    · have e1 : decide (x < 0) = false := by simp; omega
      have e2 : decide (y < 0) = false := by simp; omega
      have cs2 : ∀ w, Calls Try.prog 54 #[.bool false, .int .u64 (P : Nat)] w fun e w' => e = .returned (.tuple #[.int .i64 N, .int .i64 E]) ∧ w' = w := by rw [e1, e2] at cs1; exact cs1
      clear cs1
      go_enter Try.func48, Try.ntmps48
      go_wp2_with (first | (go_at_call 55; (with_reducible refine (sx _).mono ?_); rintro e w' ⟨rfl, rfl⟩) | (go_at_call 55; (with_reducible refine (sy _).mono ?_); rintro e w' ⟨rfl, rfl⟩) | (go_at_call 61; refine (cp _).mono ?_; rintro e w' ⟨rfl, rfl⟩) | (go_at_call 54; refine (cs2 _).mono ?_; rintro e w' ⟨rfl, rfl⟩))
      go_ret2
      exact ⟨rfl, rfl⟩
  · have cp := fun w => rProductNo x.natAbs y.natAbs (by omega) (by omega) (by omega) w
    have hn : inr (x * y) = false := by rw [inr_no]; omega
    rw [cut_no hn, ovr_no hn]
    clear hm ha h hn
    go_enter Try.func48, Try.ntmps48
    go_wp2_with (first | (go_at_call 55; (with_reducible refine (sx _).mono ?_); rintro e w' ⟨rfl, rfl⟩) | (go_at_call 55; (with_reducible refine (sy _).mono ?_); rintro e w' ⟨rfl, rfl⟩) | (go_at_call 61; refine (cp _).mono ?_; rintro e w' ⟨rfl, rfl⟩))
    go_ret2
    exact ⟨rfl, rfl⟩

theorem rCommon (a b : Nat) (ha : a < 18446744073709551616) (hb : b < 18446744073709551616) (w : World) :
    Calls Try.prog 60 #[.int .u64 (a : Nat), .int .u64 (b : Nat)] w fun e w' => e = .returned (.int .u64 (Nat.gcd a b : Nat)) ∧ ∃ n, w' = w.drewN n := by
  go_enter Try.func60, Try.ntmps60
  go_wp2
  go_loopw [0, 1] (fun x y wr => ∃ A B : Nat, x = .int .u64 (A : Nat) ∧ y = .int .u64 (B : Nat) ∧ A < 18446744073709551616 ∧ B < 18446744073709551616 ∧ Nat.gcd A B = Nat.gcd a b ∧ ∃ n, wr = w.drewN n) (fun _ y _ => (intOf y).toNat)
  case atStart => exact ⟨a, b, rfl, rfl, ha, hb, rfl, 0, rfl⟩
  case round =>
    obtain ⟨A, B, rfl, rfl, hA, hB, hg, n, rfl⟩ := hrel
    by_cases h0 : B = 0
    · subst h0
      rw [Nat.gcd_zero_right] at hg
      go_wp2
      go_ret
      exact ⟨ret_int (by rw [hg]), n, rfl⟩
    · have t : ((B : Int) != 0) = true := by simp; omega
      have hg' : Hid (Nat.gcd B (A % B) = Nat.gcd a b) := by show _ = _; rw [← hg, Nat.gcd_comm A B, Nat.gcd_rec B A, Nat.gcd_comm]
      have hm := Nat.mod_lt A (Nat.pos_of_ne_zero h0)
      clear hg
      go_wp2
      go_quiet (fail)
      go_wp2
      go_roundw
      case rel => exact ⟨B, A % B, rfl, by go_num, hB, by omega, hg'.out, n + nq, by simp⟩
      case measure => simp [intOf]; omega

theorem rFactorial (y : Int) (hy : inr y = true) (w : World) :
    Calls Try.prog 56 #[.int .i64 y] w fun e w' => e = .returned (.tuple #[.int .i64 (factN y), .int .i64 (factE y)]) ∧ w' = w := by
  rw [inr_iff] at hy
  by_cases c0 : y < 0
  · have e : factN y = 0 := by unfold factN; rw [if_pos c0]
    have e2 : factE y = 10 := by unfold factE; rw [if_pos c0]
    rw [e, e2]
    go_enter Try.func56, Try.ntmps56
    go_wp2
    go_ret2
    exact ⟨rfl, rfl⟩
  have e : factN y = cut (fact y.toNat) := by unfold factN; rw [if_neg c0]
  have e2 : factE y = ovr (fact y.toNat) := by unfold factE; rw [if_neg c0]
  rw [e, e2]
  clear e e2
  go_enter Try.func56, Try.ntmps56
  go_wp2
  go_loop [4, 5] (fun p i => ∃ k : Nat, 1 ≤ k ∧ k ≤ 20 ∧ (k ≤ y.toNat ∨ k = 1) ∧ i = .int .i64 ((k : Int) + 1) ∧ p = .int .i64 (fact k : Nat)) (fun _ i => (22 - intOf i).toNat)
  case atStart => exact ⟨1, by omega, by omega, by omega, rfl, rfl⟩
  case round =>
    obtain ⟨k, hk1, hk2, hk3, rfl, rfl⟩ := hrel
    by_cases hlt : (k : Int) + 1 ≤ y
    · have hm : (fact k : Int) * ((k : Int) + 1) = (fact (k + 1) : Nat) := by
        rw [show fact (k + 1) = (k + 1) * fact k from rfl, Int.natCast_mul, Int.mul_comm]; rfl
      have hr := fun w => rTimes (fact k : Nat) ((k : Int) + 1) (fact_small (by omega)) (inr_iff.2 (by omega)) w
      rw [hm] at hr
      clear hm
      by_cases h20 : k = 20
      · have hg : Hid (inr (fact y.toNat) = false) := fact_great (by omega)
        subst h20
        have hg2 := fact_great (n := 20 + 1) (by omega)
        rw [cut_no hg2, ovr_no hg2] at hr
        clear hg2
        go_wp2_with (go_at_call 48; refine (hr _).mono ?_; rintro e w' ⟨rfl, rfl⟩)
        go_ret2
        exact ⟨ret_two (cut_no hg.out).symm (ovr_no hg.out).symm, rfl⟩
      · have hs := fact_small (n := k + 1) (by omega)
        rw [cut_yes hs, ovr_yes hs] at hr
        clear hs
        go_wp2_with (go_at_call 48; refine (hr _).mono ?_; rintro e w' ⟨rfl, rfl⟩)
        go_round
        case rel => exact ⟨k + 1, by omega, by omega, by omega, by go_num, rfl⟩
        case measure => simp [intOf]; omega
    · have hf : Hid (fact k = fact y.toNat) := by
        show _ = _
        rcases hk3 with h | h
        · rw [show k = y.toNat by omega]
        · subst h
          rcases (show y.toNat = 0 ∨ y.toNat = 1 by omega) with h | h <;> rw [h] <;> rfl
      have hs : Hid (inr (fact k : Nat) = true) := fact_small (by omega)
      go_wp2
      go_ret2
      exact ⟨ret_two (by rw [← hf.out, cut_yes hs.out]) (by rw [← hf.out, ovr_yes hs.out]), rfl⟩
end Go.Proofs.Ytaajliecbchklaa
