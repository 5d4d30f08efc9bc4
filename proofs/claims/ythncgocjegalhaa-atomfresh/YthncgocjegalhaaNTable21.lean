
/- The contract of package num's Dyad at the row of the ways to choose. -/

import Derived.Test.YthncgocjegalhaaNDiv1

import Derived.Test.YthncgocjegalhaaNDiv2

import Derived.Test.YthncgocjegalhaaNDiv3

import Derived.Test.YthncgocjegalhaaNDiv4

import Derived.Test.YthncgocjegalhaaNTable

namespace Go.Proofs.Ythncgocjegalhaa.Nm

open Go.RowKit

theorem bitsDiv_any (hi lo y : Nat) (h1 : 1 ≤ y) (h2 : y ≤ 33) (hh : hi < y) (hl : lo < 18446744073709551616) (w : World) :
    Calls Try.prog 80 #[.int .u64 (hi : Nat), .int .u64 (lo : Nat), .int .u64 (y : Nat)] w fun e w' => (∃ r : Int, e = .returned (.tuple #[.int .u64 (((hi * 18446744073709551616 + lo) / y : Nat) : Int), .int .u64 r])) ∧ ∃ n, w' = w.drewN n := by
  rcases Nat.eq_zero_or_pos hi with h0 | h0
  · subst h0
    rw [Nat.zero_mul, Nat.zero_add]
    exact bitsDiv_plain lo y h1 h2 hl w
  · rcases split33 h2 with rfl | rfl | rfl | rfl | rfl | rfl | rfl | rfl | rfl | rfl | rfl | rfl | rfl | rfl | rfl | rfl | rfl | rfl | rfl | rfl | rfl | rfl | rfl | rfl | rfl | rfl | rfl | rfl | rfl | rfl | rfl | rfl | rfl | rfl
    · omega
    · omega
    · exact bitsDiv_2 hi lo h0 hh hl w
    · exact bitsDiv_3 hi lo h0 hh hl w
    · exact bitsDiv_4 hi lo h0 hh hl w
    · exact bitsDiv_5 hi lo h0 hh hl w
    · exact bitsDiv_6 hi lo h0 hh hl w
    · exact bitsDiv_7 hi lo h0 hh hl w
    · exact bitsDiv_8 hi lo h0 hh hl w
    · exact bitsDiv_9 hi lo h0 hh hl w
    · exact bitsDiv_10 hi lo h0 hh hl w
    · exact bitsDiv_11 hi lo h0 hh hl w
    · exact bitsDiv_12 hi lo h0 hh hl w
    · exact bitsDiv_13 hi lo h0 hh hl w
    · exact bitsDiv_14 hi lo h0 hh hl w
    · exact bitsDiv_15 hi lo h0 hh hl w
    · exact bitsDiv_16 hi lo h0 hh hl w
    · exact bitsDiv_17 hi lo h0 hh hl w
    · exact bitsDiv_18 hi lo h0 hh hl w
    · exact bitsDiv_19 hi lo h0 hh hl w
    · exact bitsDiv_20 hi lo h0 hh hl w
    · exact bitsDiv_21 hi lo h0 hh hl w
    · exact bitsDiv_22 hi lo h0 hh hl w
    · exact bitsDiv_23 hi lo h0 hh hl w
    · exact bitsDiv_24 hi lo h0 hh hl w
    · exact bitsDiv_25 hi lo h0 hh hl w
    · exact bitsDiv_26 hi lo h0 hh hl w
    · exact bitsDiv_27 hi lo h0 hh hl w
    · exact bitsDiv_28 hi lo h0 hh hl w
    · exact bitsDiv_29 hi lo h0 hh hl w
    · exact bitsDiv_30 hi lo h0 hh hl w
    · exact bitsDiv_31 hi lo h0 hh hl w
    · exact bitsDiv_32 hi lo h0 hh hl w
    · exact bitsDiv_33 hi lo h0 hh hl w
end Go.Proofs.Ythncgocjegalhaa.Nm

namespace Go.Proofs.Ythncgocjegalhaa.Nm

open Go.RowKit

set_option linter.unusedVariables false

theorem chooseFew_any (few all : Nat) (hf : few ≤ 33) (ha : few + few ≤ all) (hb : all < 9223372036854775808) (w : World) :
    Calls Try.prog 79 #[.int .u64 (few : Nat), .int .u64 (all : Nat)] w fun e w' => e = .returned (.tuple #[.int .i64 (cut (binom all few : Nat)), .int .i64 (ovr (binom all few : Nat))]) ∧ ∃ n, w' = w.drewN n := by
  obtain ⟨m, HM⟩ : ∃ m, Hid (m = all - few) := ⟨_, (rfl : all - few = all - few)⟩
  have hm1 : m ≤ all := by have := HM.out; omega
  go_enter Try.func79, Try.ntmps79
  go_wp2
  go_loopw [6, 7] (fun v i wr => ∃ k : Nat, k ≤ few ∧ i = .int .u64 ((k : Int) + 1) ∧ v = .int .u64 (binom (m + k) k : Nat) ∧ binom (m + k) k ≤ 9223372036854775807 ∧ ∃ n, wr = w.drewN n) (fun _ i _ => (35 - intOf i).toNat)
  case atStart => exact ⟨0, by omega, rfl, by rw [binom_zero]; rfl, by rw [binom_zero]; omega, 0, rfl⟩
  case round =>
    obtain ⟨k, hk, rfl, rfl, hle, n, rfl⟩ := hrel
    by_cases hlt : (k : Int) + 1 ≤ few
    · have hm := HM.out
      have hP : binom (m + k) k * (all - few + (k + 1)) = binom (m + k + 1) (k + 1) * (k + 1) := by
        rw [binom_mul, hm]; congr 1
      have hup : binom (m + k + 1) (k + 1) ≤ binom all few := by
        have h := binom_up m (i := k + 1) (j := few) (by omega)
        rw [show m + few = all by omega] at h
        exact h
      have hmul := fun w => bitsMul64 (binom (m + k) k) (all - few + (k + 1)) (by omega) (by omega) w
      rw [hP, show ((all - few + (k + 1) : Nat) : Int) = (all : Int) - (few : Int) + ((k : Int) + 1) by omega] at hmul
      obtain ⟨B, hB⟩ : ∃ B, B = binom (m + k + 1) (k + 1) := ⟨_, rfl⟩
      rw [← hB] at hmul hup
      obtain ⟨H, hH⟩ : ∃ H, H = B * (k + 1) / 18446744073709551616 := ⟨_, rfl⟩
      obtain ⟨L, hL⟩ : ∃ L, L = B * (k + 1) % 18446744073709551616 := ⟨_, rfl⟩
      rw [← hH, ← hL] at hmul
      have hHL : H * 18446744073709551616 + L = B * (k + 1) := by omega
      have hLb : L < 18446744073709551616 := by omega
      have hprod : B * (k + 1) ≤ 9223372036854775807 * 9223372036854775807 := by
        rw [hB, ← hP]; exact Nat.mul_le_mul hle (by omega)
      have hHb : H < 18446744073709551616 := by omega
      have HB : Hid (B = binom (m + (k + 1)) (k + 1)) := hB
      clear hB hP hH hL hprod hm
      by_cases c1 : k + 1 ≤ H
      · have hbig : 18446744073709551616 ≤ B := by
          have h1 : (k + 1) * 18446744073709551616 ≤ B * (k + 1) := by omega
          rw [Nat.mul_comm] at h1
          exact Nat.le_of_mul_le_mul_right h1 (by omega)
        have hno : Hid (inr (binom all few : Nat) = false) := inr_no.2 (by omega)
        clear hHL
        go_wp2_with (go_at_call 57; refine (hmul _).mono ?_; rintro e w' ⟨rfl, rfl⟩)
        go_ret2
        exact ⟨ret_two (cut_no hno.out).symm (ovr_no hno.out).symm, n, rfl⟩
      · have hdiv := fun w => bitsDiv_any H L (k + 1) (by omega) (by omega) (by omega) hLb w
        rw [hHL, Nat.mul_div_cancel _ (Nat.succ_pos k), show ((k + 1 : Nat) : Int) = (k : Int) + 1 by omega] at hdiv
        have hBb : B < 18446744073709551616 := by
          have h1 : B * (k + 1) < 18446744073709551616 * (k + 1) := by omega
          exact Nat.lt_of_mul_lt_mul_right h1
        clear hHL
        by_cases c2 : 9223372036854775807 < B
        · have hno : Hid (inr (binom all few : Nat) = false) := inr_no.2 (by omega)
          go_wp2_with (first | (go_at_call 57; refine (hmul _).mono ?_; rintro e w' ⟨rfl, rfl⟩) | (go_at_call 80; refine (hdiv _).mono ?_; rintro e w' ⟨⟨r, rfl⟩, n2, rfl⟩))
          go_ret2
          exact ⟨ret_two (cut_no hno.out).symm (ovr_no hno.out).symm, n + n2, by simp⟩
        · go_wp2_with (first | (go_at_call 57; refine (hmul _).mono ?_; rintro e w' ⟨rfl, rfl⟩) | (go_at_call 80; refine (hdiv _).mono ?_; rintro e w' ⟨⟨r, rfl⟩, n2, rfl⟩))
          go_roundw
          case rel => exact ⟨k + 1, by omega, by go_num, by rw [← HB.out], by rw [← HB.out]; omega, n + n2, by simp⟩
          case measure => simp [intOf]; omega
    · have e : k = few := by omega
      subst e
      have hm := HM.out
      have hi : inr (binom all k : Nat) = true := by rw [inr_iff]; rw [show m + k = all by omega] at hle; omega
      clear hm
      go_wp2
      go_ret2
      exact ⟨ret_two (by rw [cut_yes hi, show m + k = all by have := HM.out; omega]) (ovr_yes hi).symm, n, rfl⟩

theorem chooseN_in {x y : Int} (h0 : 0 ≤ x) (h : x ≤ y) : chooseN x y = cut (binom y.toNat x.toNat) := by unfold chooseN; rw [if_neg (by omega)]
theorem chooseE_in {x y : Int} (h0 : 0 ≤ x) (h : x ≤ y) : chooseE x y = ovr (binom y.toNat x.toNat) := by unfold chooseE; rw [if_neg (by omega), if_neg (by omega)]

theorem choose_any (x y : Int) (hx : inr x = true) (hy : inr y = true) (w : World) :
    Calls Try.prog 75 #[.int .i64 x, .int .i64 y] w fun e w' => e = .returned (.tuple #[.int .i64 (chooseN x y), .int .i64 (chooseE x y)]) ∧ ∃ n, w' = w.drewN n := by
  rw [inr_iff] at hx hy
  by_cases c0 : y < 0
  · have e : chooseN x y = 0 := by unfold chooseN; rw [if_pos (Or.inl c0)]
    have e2 : chooseE x y = 10 := by unfold chooseE; rw [if_pos c0]
    rw [e, e2]
    go_enter Try.func75, Try.ntmps75
    go_wp2
    go_ret2
    exact ⟨rfl, 0, rfl⟩
  by_cases c1 : x < 0
  · have e : chooseN x y = 0 := by unfold chooseN; rw [if_pos (Or.inr (Or.inl c1))]
    have e2 : chooseE x y = 0 := by unfold chooseE; rw [if_neg c0, if_pos (Or.inl c1)]
    rw [e, e2]
    have b1 : decide (x < 0) = true := by simpa using c1
    go_enter Try.func75, Try.ntmps75
    go_wp2
    go_ret2
    exact ⟨rfl, 0, rfl⟩
  have b1 : decide (x < 0) = false := by simpa using c1
  by_cases c2 : y < x
  · have e : chooseN x y = 0 := by unfold chooseN; rw [if_pos (Or.inr (Or.inr c2))]
    have e2 : chooseE x y = 0 := by unfold chooseE; rw [if_neg c0, if_pos (Or.inr c2)]
    rw [e, e2]
    have b2 : decide (y < x) = true := by simpa using c2
    go_enter Try.func75, Try.ntmps75
    go_wp2
    go_ret2
    exact ⟨rfl, 0, rfl⟩
  have b2 : decide (y < x) = false := by simpa using c2
  rw [chooseN_in (by omega) (by omega), chooseE_in (by omega) (by omega)]
  obtain ⟨X, hX⟩ : ∃ X : Nat, x = X := ⟨x.toNat, by omega⟩
  obtain ⟨Y, hY⟩ : ∃ Y : Nat, y = Y := ⟨y.toNat, by omega⟩
  subst hX hY
  simp only [Int.toNat_natCast]
  have hs := binom_sym (n := Y) (k := X) (by omega)
  by_cases c3 : X ≤ Y - X
  · have emin : min (X : Int) ((Y : Int) - X) = X := by omega
    by_cases c4 : 33 < X
    · have hg := binom_great (n := Y) (k := X) c4 (by omega)
      rw [cut_no hg, ovr_no hg]
      clear hg hs
      go_enter Try.func75, Try.ntmps75
      go_wp2
      go_ret2
      exact ⟨rfl, 0, rfl⟩
    · have hc := fun w => chooseFew_any X Y (by omega) (by omega) (by omega) w
      clear hs
      go_enter Try.func75, Try.ntmps75
      go_wp2_with (go_at_call 79; refine (hc _).mono ?_; rintro e w' ⟨rfl, n2, rfl⟩)
      go_ret2
      exact ⟨rfl, n2, rfl⟩
  · have emin : min (X : Int) ((Y : Int) - X) = (Y : Int) - X := by omega
    rw [hs]
    clear hs
    by_cases c4 : 33 < Y - X
    · have hg := binom_great (n := Y) (k := Y - X) c4 (by omega)
      rw [cut_no hg, ovr_no hg]
      clear hg
      go_enter Try.func75, Try.ntmps75
      go_wp2
      go_ret2
      exact ⟨rfl, 0, rfl⟩
    · have hc := fun w => chooseFew_any (Y - X) Y (by omega) (by omega) (by omega) w
      rw [show ((Y - X : Nat) : Int) = (Y : Int) - X by omega] at hc
      go_enter Try.func75, Try.ntmps75
      go_wp2_with (go_at_call 79; refine (hc _).mono ?_; rintro e w' ⟨rfl, n2, rfl⟩)
      go_ret2
      exact ⟨rfl, n2, rfl⟩
end Go.Proofs.Ythncgocjegalhaa.Nm

namespace Go.Proofs.Ythncgocjegalhaa.Nm

open Go.RowKit

set_option linter.unusedVariables false

set_option maxRecDepth 20000 in
theorem dyad21 (x y : Int) (hx : inr x = true) (hy : inr y = true) (w : World) :
    Calls Try.prog 52 #[.int .i64 21, .int .i64 x, .int .i64 y] w fun e w' => e = .returned (.tuple #[.int .i64 (chooseN x y), .int .i64 (chooseE x y)]) ∧ ∃ n, w' = w.drewN n := by
  go_enter Try.func52, Try.ntmps52
  go_wp2_with (first | (go_at_call 75; refine (choose_any _ _ (by assumption) (by assumption) _).mono ?_; rintro e w' ⟨rfl, n, rfl⟩))
  go_ret2
  exact ⟨rfl, _, rfl⟩
end Go.Proofs.Ythncgocjegalhaa.Nm
