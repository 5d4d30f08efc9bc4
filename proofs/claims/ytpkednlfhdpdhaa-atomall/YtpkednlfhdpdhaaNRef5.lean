
/- The contract of the document's own answer (abacusref1) for the ways to choose. -/

import Derived.Test.YtpkednlfhdpdhaaNPows

import Derived.Test.YtpkednlfhdpdhaaNRef4

namespace Go.Proofs.Ytpkednlfhdpdhaa.Nm

open Go.RowKit

set_option linter.unusedVariables false

theorem chooseN_pos {x y : Int} (h0 : 0 ≤ x) (h1 : 0 ≤ y) : chooseN x y = cut (binom y.toNat x.toNat) := by
  by_cases c : y < x
  · unfold chooseN; rw [if_pos (by omega), binom_over (by omega)]; rfl
  · unfold chooseN; rw [if_neg (by omega)]
theorem chooseE_pos {x y : Int} (h0 : 0 ≤ x) (h1 : 0 ≤ y) : chooseE x y = ovr (binom y.toNat x.toNat) := by
  by_cases c : y < x
  · unfold chooseE; rw [if_neg (by omega), if_pos (by omega), binom_over (by omega)]; rfl
  · unfold chooseE; rw [if_neg (by omega), if_neg (by omega)]
theorem choose_out {x n : Int} (hn : 0 ≤ n) (h : x < 0 ∨ n < x) : chooseN x n = 0 ∧ chooseE x n = 0 := by
  unfold chooseN chooseE
  rw [if_pos (by omega), if_neg (by omega), if_pos (by omega)]
  exact ⟨rfl, rfl⟩
end Go.Proofs.Ytpkednlfhdpdhaa.Nm

namespace Go.Proofs.Ytpkednlfhdpdhaa.Nm

open Go.RowKit

set_option linter.unusedVariables false

/-- A product over a divisor, with the common divisor taken out first. -/
theorem reduced {n f d b : Nat} (hd : 0 < d) (h : n * f = b * d) : n / (d / Nat.gcd f d) * (f / Nat.gcd f d) = b := by
  have hg : 0 < Nat.gcd f d := Nat.gcd_pos_of_pos_right _ hd
  obtain ⟨f', hf⟩ := Nat.gcd_dvd_left f d
  obtain ⟨d', hd'⟩ := Nat.gcd_dvd_right f d
  have hco : Nat.Coprime (f / Nat.gcd f d) (d / Nat.gcd f d) := Nat.coprime_div_gcd_div_gcd hg
  have ef : f / Nat.gcd f d = f' := by
    have h1 : f / Nat.gcd f d = Nat.gcd f d * f' / Nat.gcd f d := by rw [← hf]
    rw [h1, Nat.mul_div_cancel_left _ hg]
  have ed : d / Nat.gcd f d = d' := by
    have h1 : d / Nat.gcd f d = Nat.gcd f d * d' / Nat.gcd f d := by rw [← hd']
    rw [h1, Nat.mul_div_cancel_left _ hg]
  rw [ef, ed] at hco ⊢
  have h2 : n * f' = b * d' := by
    have e1 : n * f = Nat.gcd f d * (n * f') := by
      have : n * f = n * (Nat.gcd f d * f') := by rw [← hf]
      rw [this, Nat.mul_left_comm]
    have e2 : b * d = Nat.gcd f d * (b * d') := by
      have : b * d = b * (Nat.gcd f d * d') := by rw [← hd']
      rw [this, Nat.mul_left_comm]
    rw [e1, e2] at h
    exact Nat.eq_of_mul_eq_mul_left hg h
  have hdp : 0 < d' := by
    rcases Nat.eq_zero_or_pos d' with z | z
    · rw [z, Nat.mul_zero] at hd'; omega
    · exact z
  have hdv : d' ∣ n := by
    have : d' ∣ n * f' := ⟨b, by rw [h2, Nat.mul_comm]⟩
    exact Nat.Coprime.dvd_of_dvd_mul_right (Nat.Coprime.symm hco) this
  obtain ⟨m, hm⟩ := hdv
  rw [hm, Nat.mul_div_cancel_left _ hdp]
  rw [hm] at h2
  have : d' * (m * f') = d' * b := by rw [← Nat.mul_assoc, h2, Nat.mul_comm]
  exact Nat.eq_of_mul_eq_mul_left hdp this

set_option maxHeartbeats 1000000 in
theorem rWays_in (X few Y : Nat) (hxy : X ≤ Y) (hyb : Y ≤ 9223372036854775807) (hf : (X + X ≤ Y ∧ few = X) ∨ (¬ X + X ≤ Y ∧ few = Y - X)) (w : World) :
    Calls Try.prog 80 #[.int .i64 (X : Nat), .int .i64 (Y : Nat)] w fun e w' => e = .returned (.tuple #[.int .i64 (cut (binom Y few : Nat)), .int .i64 (ovr (binom Y few : Nat))]) ∧ ∃ n, w' = w.drewN n := by
  obtain ⟨m, HM⟩ : ∃ m, Hid (m = Y - few) := ⟨_, (rfl : Y - few = Y - few)⟩
  have hm1 : m ≤ Y := by have := HM.out; omega
  have hff : few + few ≤ Y := by omega
  have d2 : decide (Y < X) = false := by simp; omega
  have dX : decide ((X : Int) < 0) = false := by simp only [decide_eq_false_iff_not]; omega
  have dY : decide ((Y : Int) < 0) = false := by simp only [decide_eq_false_iff_not]; omega
  rcases hf with ⟨hle, hfe⟩ | ⟨hle, hfe⟩
  · subst hfe
    have d4 : decide ((Y : Int) - (few : Int) < (few : Int)) = false := by simp only [decide_eq_false_iff_not]; omega
    go_enter Try.func80, Try.ntmps80
    go_wp2
    go_loopw [6, 7] (fun v i wr => ∃ k : Nat, k ≤ few ∧ i = .int .i64 ((k : Int) + 1) ∧ v = .int .u64 (binom (m + k) k : Nat) ∧ binom (m + k) k ≤ 9223372036854775807 ∧ ∃ n, wr = w.drewN n) (fun _ i _ => few + 1 - (intOf i).toNat)
    case atStart => exact ⟨0, by omega, rfl, by rw [binom_zero]; rfl, by rw [binom_zero]; omega, 0, rfl⟩
    case round =>
      obtain ⟨k, hk, rfl, rfl, hle2, n, rfl⟩ := hrel
      by_cases hlt : (k : Int) + 1 ≤ few
      · have hm := HM.out
        have hP : binom (m + k) k * (m + (k + 1)) = binom (m + k + 1) (k + 1) * (k + 1) := by
          rw [binom_mul]; congr 1
        have hred := reduced (Nat.succ_pos k) hP
        have hup : binom (m + k + 1) (k + 1) ≤ binom Y few := by
          have h := binom_up m (i := k + 1) (j := few) (by omega)
          rw [show m + few = Y by omega] at h
          exact h
        have hfb : m + (k + 1) < 18446744073709551616 := by omega
        have hg : 0 < Nat.gcd (m + (k + 1)) (k + 1) := Nat.gcd_pos_of_pos_right _ (by omega)
        have hgd : Nat.gcd (m + (k + 1)) (k + 1) ≤ k + 1 := Nat.gcd_le_right _ (by omega)
        have cc := fun w => rCommon (m + (k + 1)) (k + 1) hfb (by omega) w
        have q1 : ((k + 1 : Nat) : Int) / ((Nat.gcd (m + (k + 1)) (k + 1) : Nat) : Int) = (((k + 1) / Nat.gcd (m + (k + 1)) (k + 1) : Nat) : Int) := (Int.natCast_ediv _ _).symm
        have q2 : ((m + (k + 1) : Nat) : Int) / ((Nat.gcd (m + (k + 1)) (k + 1) : Nat) : Int) = (((m + (k + 1)) / Nat.gcd (m + (k + 1)) (k + 1) : Nat) : Int) := (Int.natCast_ediv _ _).symm
        have hd0 : 0 < (k + 1) / Nat.gcd (m + (k + 1)) (k + 1) := Nat.div_pos hgd hg
        have q3 : ((binom (m + k) k : Nat) : Int) / (((k + 1) / Nat.gcd (m + (k + 1)) (k + 1) : Nat) : Int) = ((binom (m + k) k / ((k + 1) / Nat.gcd (m + (k + 1)) (k + 1)) : Nat) : Int) := (Int.natCast_ediv _ _).symm
        have l3 := Nat.div_le_self (k + 1) (Nat.gcd (m + (k + 1)) (k + 1))
        have l1 := Nat.div_le_self (binom (m + k) k) ((k + 1) / Nat.gcd (m + (k + 1)) (k + 1))
        have l2 := Nat.div_le_self (m + (k + 1)) (Nat.gcd (m + (k + 1)) (k + 1))
        obtain ⟨B, hB⟩ : ∃ B, B = binom (m + k + 1) (k + 1) := ⟨_, rfl⟩
        have HB : Hid (B = binom (m + (k + 1)) (k + 1)) := hB
        rw [← hB] at hred hup
        clear hB
        have ef : ((m + (k + 1) : Nat) : Int) = (Y : Int) - (few : Int) + ((k : Int) + 1) := by omega
        have ek : ((k + 1 : Nat) : Int) = (k : Int) + 1 := by omega
        rw [ef, ek] at cc
        rw [ek] at q1
        rw [ef] at q2
        generalize Nat.gcd (m + (k + 1)) (k + 1) = g at *
        generalize (k + 1) / g = D at *
        generalize (m + (k + 1)) / g = F at *
        generalize binom (m + k) k / D = N1 at *
        clear hP ef ek hm
        have hg0 : ((g : Int) == 0) = false := by simp; omega
        have hD0 : ((D : Int) == 0) = false := by simp; omega
        by_cases c1 : B < 18446744073709551616
        · have cp := fun w => rProductYes N1 F (by omega) (by omega) (by rw [hred]; exact c1) w
          rw [hred] at cp
          clear hred
          by_cases c2 : 9223372036854775807 < B
          · have hno : Hid (inr (binom Y few : Nat) = false) := inr_no.2 (by omega)
            go_wp2_with (first | (go_at_call 76; refine (cc _).mono ?_; rintro e w' ⟨rfl, n2, rfl⟩) | (go_at_call 77; refine (cp _).mono ?_; rintro e w' ⟨rfl, rfl⟩))
            go_ret2
            exact ⟨ret_two (cut_no hno.out).symm (ovr_no hno.out).symm, n + n2, by simp⟩
          · go_wp2_with (first | (go_at_call 76; refine (cc _).mono ?_; rintro e w' ⟨rfl, n2, rfl⟩) | (go_at_call 77; refine (cp _).mono ?_; rintro e w' ⟨rfl, rfl⟩))
            go_roundw
            case rel => exact ⟨k + 1, by omega, by go_num, by rw [← HB.out], by rw [← HB.out]; omega, n + n2, by simp⟩
            case measure => simp [intOf]; omega
        · have cp := fun w => rProductNo N1 F (by omega) (by omega) (by rw [hred]; omega) w
          have hno : Hid (inr (binom Y few : Nat) = false) := inr_no.2 (by omega)
          clear hred
          go_wp2_with (first | (go_at_call 76; refine (cc _).mono ?_; rintro e w' ⟨rfl, n2, rfl⟩) | (go_at_call 77; refine (cp _).mono ?_; rintro e w' ⟨rfl, rfl⟩))
          go_ret2
          exact ⟨ret_two (cut_no hno.out).symm (ovr_no hno.out).symm, n + n2, by simp⟩
      · have e : k = few := by omega
        subst e
        have hi : inr (binom Y k : Nat) = true := by rw [inr_iff]; rw [show m + k = Y by have := HM.out; omega] at hle2; omega
        go_wp2
        go_ret2
        exact ⟨ret_two (by rw [cut_yes hi, show m + k = Y by have := HM.out; omega]) (ovr_yes hi).symm, n, rfl⟩
  · have HF : Hid ((Y : Int) - (X : Int) = (few : Int)) := by show _ = _; omega
    have d4 : decide ((Y : Int) - (X : Int) < (X : Int)) = true := by simp only [decide_eq_true_eq]; omega
    clear hfe
    go_enter Try.func80, Try.ntmps80
    go_wp2
    rw [HF.out]
    go_loopw [6, 7] (fun v i wr => ∃ k : Nat, k ≤ few ∧ i = .int .i64 ((k : Int) + 1) ∧ v = .int .u64 (binom (m + k) k : Nat) ∧ binom (m + k) k ≤ 9223372036854775807 ∧ ∃ n, wr = w.drewN n) (fun _ i _ => few + 1 - (intOf i).toNat)
    case atStart => exact ⟨0, by omega, rfl, by rw [binom_zero]; rfl, by rw [binom_zero]; omega, 0, rfl⟩
    case round =>
      obtain ⟨k, hk, rfl, rfl, hle2, n, rfl⟩ := hrel
      by_cases hlt : (k : Int) + 1 ≤ few
      · have hm := HM.out
        have hP : binom (m + k) k * (m + (k + 1)) = binom (m + k + 1) (k + 1) * (k + 1) := by
          rw [binom_mul]; congr 1
        have hred := reduced (Nat.succ_pos k) hP
        have hup : binom (m + k + 1) (k + 1) ≤ binom Y few := by
          have h := binom_up m (i := k + 1) (j := few) (by omega)
          rw [show m + few = Y by omega] at h
          exact h
        have hfb : m + (k + 1) < 18446744073709551616 := by omega
        have hg : 0 < Nat.gcd (m + (k + 1)) (k + 1) := Nat.gcd_pos_of_pos_right _ (by omega)
        have hgd : Nat.gcd (m + (k + 1)) (k + 1) ≤ k + 1 := Nat.gcd_le_right _ (by omega)
        have cc := fun w => rCommon (m + (k + 1)) (k + 1) hfb (by omega) w
        have q1 : ((k + 1 : Nat) : Int) / ((Nat.gcd (m + (k + 1)) (k + 1) : Nat) : Int) = (((k + 1) / Nat.gcd (m + (k + 1)) (k + 1) : Nat) : Int) := (Int.natCast_ediv _ _).symm
        have q2 : ((m + (k + 1) : Nat) : Int) / ((Nat.gcd (m + (k + 1)) (k + 1) : Nat) : Int) = (((m + (k + 1)) / Nat.gcd (m + (k + 1)) (k + 1) : Nat) : Int) := (Int.natCast_ediv _ _).symm
        have hd0 : 0 < (k + 1) / Nat.gcd (m + (k + 1)) (k + 1) := Nat.div_pos hgd hg
        have q3 : ((binom (m + k) k : Nat) : Int) / (((k + 1) / Nat.gcd (m + (k + 1)) (k + 1) : Nat) : Int) = ((binom (m + k) k / ((k + 1) / Nat.gcd (m + (k + 1)) (k + 1)) : Nat) : Int) := (Int.natCast_ediv _ _).symm
        have l3 := Nat.div_le_self (k + 1) (Nat.gcd (m + (k + 1)) (k + 1))
        have l1 := Nat.div_le_self (binom (m + k) k) ((k + 1) / Nat.gcd (m + (k + 1)) (k + 1))
        have l2 := Nat.div_le_self (m + (k + 1)) (Nat.gcd (m + (k + 1)) (k + 1))
        obtain ⟨B, hB⟩ : ∃ B, B = binom (m + k + 1) (k + 1) := ⟨_, rfl⟩
        have HB : Hid (B = binom (m + (k + 1)) (k + 1)) := hB
        rw [← hB] at hred hup
        clear hB
        have ef : ((m + (k + 1) : Nat) : Int) = (Y : Int) - (few : Int) + ((k : Int) + 1) := by omega
        have ek : ((k + 1 : Nat) : Int) = (k : Int) + 1 := by omega
        rw [ef, ek] at cc
        rw [ek] at q1
        rw [ef] at q2
        generalize Nat.gcd (m + (k + 1)) (k + 1) = g at *
        generalize (k + 1) / g = D at *
        generalize (m + (k + 1)) / g = F at *
        generalize binom (m + k) k / D = N1 at *
        clear hP ef ek hm
        have hg0 : ((g : Int) == 0) = false := by simp; omega
        have hD0 : ((D : Int) == 0) = false := by simp; omega
        by_cases c1 : B < 18446744073709551616
        · have cp := fun w => rProductYes N1 F (by omega) (by omega) (by rw [hred]; exact c1) w
          rw [hred] at cp
          clear hred
          by_cases c2 : 9223372036854775807 < B
          · have hno : Hid (inr (binom Y few : Nat) = false) := inr_no.2 (by omega)
            go_wp2_with (first | (go_at_call 76; refine (cc _).mono ?_; rintro e w' ⟨rfl, n2, rfl⟩) | (go_at_call 77; refine (cp _).mono ?_; rintro e w' ⟨rfl, rfl⟩))
            go_ret2
            exact ⟨ret_two (cut_no hno.out).symm (ovr_no hno.out).symm, n + n2, by simp⟩
          · go_wp2_with (first | (go_at_call 76; refine (cc _).mono ?_; rintro e w' ⟨rfl, n2, rfl⟩) | (go_at_call 77; refine (cp _).mono ?_; rintro e w' ⟨rfl, rfl⟩))
            go_roundw
            case rel => exact ⟨k + 1, by omega, by go_num, by rw [← HB.out], by rw [← HB.out]; omega, n + n2, by simp⟩
            case measure => simp [intOf]; omega
        · have cp := fun w => rProductNo N1 F (by omega) (by omega) (by rw [hred]; omega) w
          have hno : Hid (inr (binom Y few : Nat) = false) := inr_no.2 (by omega)
          clear hred
          go_wp2_with (first | (go_at_call 76; refine (cc _).mono ?_; rintro e w' ⟨rfl, n2, rfl⟩) | (go_at_call 77; refine (cp _).mono ?_; rintro e w' ⟨rfl, rfl⟩))
          go_ret2
          exact ⟨ret_two (cut_no hno.out).symm (ovr_no hno.out).symm, n + n2, by simp⟩
      · have e : k = few := by omega
        subst e
        have hi : inr (binom Y k : Nat) = true := by rw [inr_iff]; rw [show m + k = Y by have := HM.out; omega] at hle2; omega
        go_wp2
        go_ret2
        exact ⟨ret_two (by rw [cut_yes hi, show m + k = Y by have := HM.out; omega]) (ovr_yes hi).symm, n, rfl⟩

theorem rWays (x y : Int) (hx : inr x = true) (hy : inr y = true) (w : World) :
    Calls Try.prog 80 #[.int .i64 x, .int .i64 y] w fun e w' => e = .returned (.tuple #[.int .i64 (chooseN x y), .int .i64 (chooseE x y)]) ∧ ∃ n, w' = w.drewN n := by
  rw [inr_iff] at hx hy
  by_cases c0 : y < 0
  · have e : chooseN x y = 0 := by unfold chooseN; rw [if_pos (Or.inl c0)]
    have e2 : chooseE x y = 10 := by unfold chooseE; rw [if_pos c0]
    rw [e, e2]
    go_enter Try.func80, Try.ntmps80
    go_wp2
    go_ret2
    exact ⟨rfl, 0, rfl⟩
  by_cases c1 : x < 0
  · obtain ⟨e, e2⟩ := choose_out (x := x) (n := y) (by omega) (Or.inl c1)
    rw [e, e2]
    have b1 : decide (x < 0) = true := by simpa using c1
    go_enter Try.func80, Try.ntmps80
    go_wp2
    go_ret2
    exact ⟨rfl, 0, rfl⟩
  have b1 : decide (x < 0) = false := by simpa using c1
  by_cases c2 : y < x
  · obtain ⟨e, e2⟩ := choose_out (x := x) (n := y) (by omega) (Or.inr c2)
    rw [e, e2]
    have b2 : decide (y < x) = true := by simpa using c2
    go_enter Try.func80, Try.ntmps80
    go_wp2
    go_ret2
    exact ⟨rfl, 0, rfl⟩
  rw [chooseN_pos (by omega) (by omega), chooseE_pos (by omega) (by omega)]
  obtain ⟨X, hX⟩ : ∃ X : Nat, x = X := ⟨x.toNat, by omega⟩
  obtain ⟨Y, hY⟩ : ∃ Y : Nat, y = Y := ⟨y.toNat, by omega⟩
  subst hX hY
  simp only [Int.toNat_natCast]
  by_cases c3 : X + X ≤ Y
  · exact rWays_in X X Y (by omega) (by omega) (Or.inl ⟨c3, rfl⟩) w
  · rw [binom_sym (n := Y) (k := X) (by omega)]
    exact rWays_in X (Y - X) Y (by omega) (by omega) (Or.inr ⟨c3, rfl⟩) w
end Go.Proofs.Ytpkednlfhdpdhaa.Nm
