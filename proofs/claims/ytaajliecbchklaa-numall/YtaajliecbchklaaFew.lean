/- Contracts of package num's chooseFew, choose and Dyad where the ways are few: the document's example, 2 of 5. -/
import Derived.Test.YtaajliecbchklaaDiv0
import Derived.Test.YtaajliecbchklaaTable
namespace Go.Proofs.Ytaajliecbchklaa
open Go.RowKit
set_option linter.unusedVariables false

theorem chooseFew_small (few all : Nat) (hf : few ≤ 33) (ha : few + few ≤ all) (hb : all < 9223372036854775808) (hsm : binom all few * 34 < 9223372036854775808) (w : World) :
    Calls Try.prog 53 #[.int .u64 (few : Nat), .int .u64 (all : Nat)] w fun e w' => e = .returned (.tuple #[.int .i64 (binom all few : Nat), .int .i64 0]) ∧ ∃ n, w' = w.drewN n := by
  obtain ⟨m, HM⟩ : ∃ m, Hid (m = all - few) := ⟨_, (rfl : all - few = all - few)⟩
  have hm1 : m ≤ all := by have := HM.out; omega
  go_enter Try.func53, Try.ntmps53
  go_wp2
  go_loopw [6, 7] (fun v i wr => ∃ k : Nat, k ≤ few ∧ i = .int .u64 ((k : Int) + 1) ∧ v = .int .u64 (binom (m + k) k : Nat) ∧ ∃ n, wr = w.drewN n) (fun _ i _ => (35 - intOf i).toNat)
  case atStart => exact ⟨0, by omega, rfl, by rw [binom_zero]; rfl, 0, rfl⟩
  case round =>
    obtain ⟨k, hk, rfl, rfl, n, rfl⟩ := hrel
    have hle : binom (m + k) k ≤ binom all few := by
      have h := binom_up m (i := k) (j := few) (by omega)
      rw [show m + few = all by have := HM.out; omega] at h
      exact h
    by_cases hlt : (k : Int) + 1 ≤ few
    · have hm := HM.out
      have hP : binom (m + k) k * (all - few + (k + 1)) = binom (m + k + 1) (k + 1) * (k + 1) := by
        rw [binom_mul, hm]; congr 1
      have hup : binom (m + k + 1) (k + 1) ≤ binom all few := by
        have h := binom_up m (i := k + 1) (j := few) (by omega)
        rw [show m + few = all by omega] at h
        exact h
      have hmul := fun w => bitsMul64 (binom (m + k) k) (all - few + (k + 1)) (by omega) (by omega) w
      rw [hP, show ((all - few + (k + 1) : Nat) : Int) = (all : Int) - (few : Int) + ((k : Int) + 1) by omega] at hmul
      obtain ⟨B, hB⟩ : ∃ B, B = binom (m + k + 1) (k + 1) := ⟨_, rfl⟩
      rw [← hB] at hmul hup
      have hlow : B * (k + 1) < 9223372036854775808 := Nat.lt_of_le_of_lt (Nat.mul_le_mul hup (show k + 1 ≤ 34 by omega)) hsm
      rw [Nat.div_eq_of_lt (show B * (k + 1) < 18446744073709551616 by omega), Nat.mod_eq_of_lt (show B * (k + 1) < 18446744073709551616 by omega)] at hmul
      have hdiv := fun w => bitsDiv_plain (B * (k + 1)) (k + 1) (by omega) (by omega) (by omega) w
      rw [Nat.mul_div_cancel _ (Nat.succ_pos k), show ((k + 1 : Nat) : Int) = (k : Int) + 1 by omega] at hdiv
      have hBb : B ≤ 9223372036854775807 := by have := Nat.mul_le_mul_left B (show 1 ≤ k + 1 by omega); omega
      generalize B * (k + 1) = L at hmul hdiv hlow
      have HB : Hid (B = binom (m + (k + 1)) (k + 1)) := hB
      clear hB hP hm
      go_wp2_with (first | (go_at_call 49; refine (hmul _).mono ?_; rintro e w' ⟨rfl, rfl⟩) | (go_at_call 65; refine (hdiv _).mono ?_; rintro e w' ⟨⟨r, rfl⟩, n2, rfl⟩))
      go_roundw
      case rel => exact ⟨k + 1, by omega, by go_num, by rw [← HB.out], n + n2, by simp⟩
      case measure => simp [intOf]; omega
    · have e : k = few := by omega
      subst e
      go_wp2
      go_ret2
      exact ⟨ret_two (by rw [show m + k = all by have := HM.out; omega]) rfl, n, rfl⟩

theorem choose25 (w : World) :
    Calls Try.prog 37 #[.int .i64 2, .int .i64 5] w fun e w' => e = .returned (.tuple #[.int .i64 10, .int .i64 0]) ∧ ∃ n, w' = w.drewN n := by
  have hc : ∀ w, Calls Try.prog 53 #[.int .u64 2, .int .u64 5] w fun e w' => e = .returned (.tuple #[.int .i64 10, .int .i64 0]) ∧ ∃ n, w' = w.drewN n := fun w => chooseFew_small 2 5 (by omega) (by omega) (by omega) (by decide) w
  go_enter Try.func37, Try.ntmps37
  go_wp2_with (go_at_call 53; (with_reducible refine (hc _).mono ?_); rintro e w' ⟨rfl, n2, rfl⟩)
  go_ret2
  exact ⟨rfl, n2, rfl⟩

set_option maxRecDepth 20000 in
theorem dyad21_25 (w : World) :
    Calls Try.prog 14 #[.int .i64 21, .int .i64 2, .int .i64 5] w fun e w' => e = .returned (.tuple #[.int .i64 10, .int .i64 0]) ∧ ∃ n, w' = w.drewN n := by
  go_enter Try.func14, Try.ntmps14
  go_wp2_with (go_at_call 37; refine (choose25 _).mono ?_; rintro e w' ⟨rfl, n2, rfl⟩)
  go_ret2
  exact ⟨rfl, _, rfl⟩
end Go.Proofs.Ytaajliecbchklaa
