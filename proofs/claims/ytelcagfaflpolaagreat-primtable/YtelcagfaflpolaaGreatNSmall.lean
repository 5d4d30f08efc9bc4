
/- Contracts of package num's small functions: truth, sign, odd, half, checked, size, unsigned, isTruth, nor, nand, quotient, residue, factorial. -/

import Derived.Test.YtelcagfaflpolaaGreatProg
import Derived.Test.YtelcagfaflpolaaGreatNMath
import Derived.WalkKit
import Derived.WalkLawsBesides
import Derived.Test.YtelcagfaflpolaaGreatNMath2




namespace Go.Proofs.YtelcagfaflpolaaGreat.Nm

open Go.RowKit

theorem add64 (a b : Int) (ha : inr a = true) (hb : inr b = true) (w : World) :
    Calls Tryz.prog 106 #[.int .i64 a, .int .i64 b] w fun e w' => e = .returned (.tuple #[.int .i64 (cut (a + b)), .bool (inr (a + b))]) ∧ w' = w := by
  rw [inr_iff] at ha hb
  cases h : inr (a + b)
  · rw [cut_no h]
    rw [inr_no] at h
    have t : (!decide (a < wrap64 (a + b)) == decide (0 < b)) = true := by
      unfold wrap64
      by_cases p : 0 < b <;> simp [p] <;> omega
    go_enter Tryz.func106, Tryz.ntmps106
    go_wp2
    go_ret2
    exact ⟨rfl, rfl⟩
  · rw [cut_yes h]
    rw [inr_iff] at h
    have t : (!decide (a < a + b) == decide (0 < b)) = false := by
      by_cases p : 0 < b <;> simp [p] <;> omega
    go_enter Tryz.func106, Tryz.ntmps106
    go_wp2
    go_ret2
    exact ⟨rfl, rfl⟩

theorem sub64 (a b : Int) (ha : inr a = true) (hb : inr b = true) (w : World) :
    Calls Tryz.prog 102 #[.int .i64 a, .int .i64 b] w fun e w' => e = .returned (.tuple #[.int .i64 (cut (a - b)), .bool (inr (a - b))]) ∧ w' = w := by
  rw [inr_iff] at ha hb
  cases h : inr (a - b)
  · rw [cut_no h]
    rw [inr_no] at h
    have t : (!decide (wrap64 (a - b) < a) == decide (0 < b)) = true := by
      unfold wrap64
      by_cases p : 0 < b <;> simp [p] <;> omega
    go_enter Tryz.func102, Tryz.ntmps102
    go_wp2
    go_ret2
    exact ⟨rfl, rfl⟩
  · rw [cut_yes h]
    rw [inr_iff] at h
    have t : (!decide (a - b < a) == decide (0 < b)) = false := by
      by_cases p : 0 < b <;> simp [p] <;> omega
    go_enter Tryz.func102, Tryz.ntmps102
    go_wp2
    go_ret2
    exact ⟨rfl, rfl⟩

/-- 0 - b, as the walk spells it. -/
theorem neg64 (b : Int) (hb : inr b = true) (w : World) :
    Calls Tryz.prog 102 #[.int .i64 0, .int .i64 b] w fun e w' => e = .returned (.tuple #[.int .i64 (cut (-b)), .bool (inr (-b))]) ∧ w' = w := by
  have h := sub64 0 b rfl hb w
  rw [show (0 : Int) - b = -b by omega] at h
  exact h

theorem mul64 (a b : Int) (ha : inr a = true) (hb : inr b = true) (w : World) :
    Calls Tryz.prog 107 #[.int .i64 a, .int .i64 b] w fun e w' => e = .returned (.tuple #[.int .i64 (cut (a * b)), .bool (inr (a * b))]) ∧ w' = w := by
  have ha' := ha
  have hb' := hb
  rw [inr_iff] at ha hb
  by_cases c0 : a = 0
  · subst c0
    have e : inr ((0 : Int) * b) = true := by rw [Int.zero_mul]; rfl
    rw [cut_yes e, e, Int.zero_mul]
    go_enter Tryz.func107, Tryz.ntmps107
    go_wp2
    go_ret2
    exact ⟨rfl, rfl⟩
  by_cases c1 : a = -1
  · subst c1
    have e : (-1 : Int) * b = -b := by omega
    rw [e]
    clear e
    go_enter Tryz.func107, Tryz.ntmps107
    go_wp2_with (go_at_call 102; refine (neg64 _ hb' _).mono ?_; rintro e w' ⟨rfl, rfl⟩)
    go_ret2
    exact ⟨rfl, rfl⟩
  cases h : inr (a * b)
  · rw [cut_no h]
    rw [inr_no] at h
    have t := mul_other a b ha c0 c1 h
    go_enter Tryz.func107, Tryz.ntmps107
    go_wp2
    go_ret2
    exact ⟨rfl, rfl⟩
  · rw [cut_yes h]
    rw [inr_iff] at h
    have t := mul_back a b c0
    go_enter Tryz.func107, Tryz.ntmps107
    go_wp2
    go_ret2
    exact ⟨rfl, rfl⟩
end Go.Proofs.YtelcagfaflpolaaGreat.Nm



namespace Go.Proofs.YtelcagfaflpolaaGreat.Nm

open Go.RowKit

set_option linter.unusedVariables false

theorem ret_int {k : IntKind} {a b : Int} (h : a = b) : Ending.returned (.int k a) = .returned (.int k b) := by rw [h]
theorem ret_bool {a b : Bool} (h : a = b) : Ending.returned (.bool a) = .returned (.bool b) := by rw [h]
theorem ret_two {k l : IntKind} {a b c d : Int} (h : a = b) (g : c = d) : Ending.returned (.tuple #[.int k a, .int l c]) = .returned (.tuple #[.int k b, .int l d]) := by rw [h, g]

theorem truth_any (b : Bool) (w : World) :
    Calls Tryz.prog 112 #[.bool b] w fun e w' => e = .returned (.int .i64 (tr b)) ∧ w' = w := by
  cases b <;> (go_enter Tryz.func112, Tryz.ntmps112; go_wp2; go_ret; exact ⟨rfl, rfl⟩)

theorem sign_any (n : Int) (w : World) :
    Calls Tryz.prog 103 #[.int .i64 n] w fun e w' => e = .returned (.int .i64 (sg n)) ∧ w' = w := by
  by_cases h : n < 0
  · have e : sg n = -1 := by unfold sg; rw [if_pos h]
    rw [e]
    go_enter Tryz.func103, Tryz.ntmps103
    go_wp2
    go_ret
    exact ⟨rfl, rfl⟩
  · have e : sg n = tr (decide (0 < n)) := by
      unfold sg tr; rw [if_neg h]
      by_cases p : 0 < n <;> simp [p]
    rw [e]
    clear e
    go_enter Tryz.func103, Tryz.ntmps103
    go_wp2_with (go_at_call 112; refine (truth_any _ _).mono ?_; rintro e w' ⟨rfl, rfl⟩)
    go_ret
    exact ⟨rfl, rfl⟩

theorem odd_any (n : Int) (w : World) :
    Calls Tryz.prog 160 #[.int .i64 n] w fun e w' => e = .returned (.bool (n % 2 != 0)) ∧ w' = w := by
  go_enter Tryz.func160, Tryz.ntmps160
  go_wp2
  go_ret
  refine ⟨ret_bool ?_, rfl⟩
  have h2 := Int.dvd_iff_emod_eq_zero (a := 2) (b := n)
  by_cases c : n % 2 = 0
  · rw [c, (Int.tmod_eq_zero_of_dvd (h2.2 c))]
  · have c2 : n.tmod 2 ≠ 0 := fun z => c (h2.1 (Int.dvd_of_tmod_eq_zero z))
    rw [bne_iff_ne.2 c, bne_iff_ne.2 c2]

theorem half_any (y : Int) (hy : inr y = true) (w : World) :
    Calls Tryz.prog 108 #[.int .i64 y] w fun e w' => e = .returned (.tuple #[.int .i64 (halfN y), .int .i64 (halfE y)]) ∧ w' = w := by
  rw [inr_iff] at hy
  by_cases c : y % 2 = 0
  · have t : (y % 2 != 0) = false := by simp [c]
    have e : wrap64 (y.tdiv 2) = halfN y := by
      unfold halfN; rw [if_pos c]
      have h := Int.mul_tdiv_add_tmod y 2
      rw [Int.tmod_eq_zero_of_dvd (Int.dvd_of_emod_eq_zero c)] at h
      unfold wrap64; omega
    have e2 : halfE y = 0 := by unfold halfE; rw [if_pos c]
    rw [e2]
    go_enter Tryz.func108, Tryz.ntmps108
    go_wp2_with (go_at_call 160; refine (odd_any _ _).mono ?_; rintro e w' ⟨rfl, rfl⟩)
    go_ret2
    exact ⟨ret_two (by first | rfl | exact e | (rw [← e, wrap_id (tdiv_inr hy (by omega))])) rfl, rfl⟩
  · have t : (y % 2 != 0) = true := by simp [c]
    have e : halfN y = 0 := by unfold halfN; rw [if_neg c]
    have e2 : halfE y = 10 := by unfold halfE; rw [if_neg c]
    rw [e, e2]
    go_enter Tryz.func108, Tryz.ntmps108
    go_wp2_with (go_at_call 160; refine (odd_any _ _).mono ?_; rintro e w' ⟨rfl, rfl⟩)
    go_ret2
    exact ⟨rfl, rfl⟩

theorem checked_cut (n : Int) (w : World) :
    Calls Tryz.prog 101 #[.int .i64 (cut n), .bool (inr n)] w fun e w' => e = .returned (.tuple #[.int .i64 (cut n), .int .i64 (ovr n)]) ∧ w' = w := by
  cases h : inr n
  · rw [cut_no h, ovr_no h]
    go_enter Tryz.func101, Tryz.ntmps101
    go_wp2
    go_ret2
    exact ⟨rfl, rfl⟩
  · rw [cut_yes h, ovr_yes h]
    go_enter Tryz.func101, Tryz.ntmps101
    go_wp2
    go_ret2
    exact ⟨rfl, rfl⟩

theorem size_any (n : Int) (hn : inr n = true) (w : World) :
    Calls Tryz.prog 105 #[.int .i64 n] w fun e w' => e = .returned (.int .u64 (n.natAbs : Nat)) ∧ w' = w := by
  rw [inr_iff] at hn
  by_cases h : n < 0
  all_goals
    go_enter Tryz.func105, Tryz.ntmps105
    go_wp2
    go_ret
    exact ⟨ret_int (by first | omega | (simp only [IntKind.wrap_u64]; omega)), rfl⟩

theorem unsigned_any (n : Nat) (hn : n < 18446744073709551616) (w : World) :
    Calls Tryz.prog 104 #[.int .u64 (n : Nat)] w fun e w' => e = .returned (.tuple #[.int .i64 (cut n), .int .i64 (ovr n)]) ∧ w' = w := by
  cases h : inr n
  · rw [cut_no h, ovr_no h]
    rw [inr_no] at h
    go_enter Tryz.func104, Tryz.ntmps104
    go_wp2
    go_ret2
    exact ⟨rfl, rfl⟩
  · rw [cut_yes h, ovr_yes h]
    rw [inr_iff] at h
    go_enter Tryz.func104, Tryz.ntmps104
    go_wp2
    go_ret2
    exact ⟨rfl, rfl⟩

theorem isTruth_any (n : Int) (w : World) :
    Calls Tryz.prog 161 #[.int .i64 n] w fun e w' => e = .returned (.bool (isT n)) ∧ w' = w := by
  by_cases h : n = 0
  · subst h
    go_enter Tryz.func161, Tryz.ntmps161
    go_wp2
    go_ret
    exact ⟨rfl, rfl⟩
  · go_enter Tryz.func161, Tryz.ntmps161
    go_wp2
    go_ret
    exact ⟨rfl, rfl⟩

theorem nor_any (x y : Int) (w : World) :
    Calls Tryz.prog 115 #[.int .i64 x, .int .i64 y] w fun e w' => e = .returned (.tuple #[.int .i64 (norN x y), .int .i64 (bitE x y)]) ∧ w' = w := by
  cases hx : isT x
  · have e : norN x y = 0 := by unfold norN bitB; simp [hx]
    have e2 : bitE x y = 10 := by unfold bitE bitB; simp [hx]
    rw [e, e2]
    go_enter Tryz.func115, Tryz.ntmps115
    go_wp2_with (go_at_call 161; refine (isTruth_any _ _).mono ?_; rintro e w' ⟨rfl, rfl⟩)
    go_ret2
    exact ⟨rfl, rfl⟩
  cases hy : isT y
  · have e : norN x y = 0 := by unfold norN bitB; simp [hy]
    have e2 : bitE x y = 10 := by unfold bitE bitB; simp [hy]
    rw [e, e2]
    go_enter Tryz.func115, Tryz.ntmps115
    go_wp2_with (go_at_call 161; refine (isTruth_any _ _).mono ?_; rintro e w' ⟨rfl, rfl⟩)
    go_ret2
    exact ⟨rfl, rfl⟩
  · have e : norN x y = tr (x == 0 && y == 0) := by unfold norN bitB; simp [hx, hy]
    have e2 : bitE x y = 0 := by unfold bitE bitB; simp [hx, hy]
    rw [e, e2]
    clear e e2
    by_cases c : x = 0
    · subst c
      go_enter Tryz.func115, Tryz.ntmps115
      go_wp2_with (first | (go_at_call 161; refine (isTruth_any _ _).mono ?_; rintro e w' ⟨rfl, rfl⟩) | (go_at_call 112; refine (truth_any _ _).mono ?_; rintro e w' ⟨rfl, rfl⟩))
      go_ret2
      exact ⟨rfl, rfl⟩
    · have c1 : (x == 0) = false := by simp [c]
      go_enter Tryz.func115, Tryz.ntmps115
      go_wp2_with (first | (go_at_call 161; refine (isTruth_any _ _).mono ?_; rintro e w' ⟨rfl, rfl⟩) | (go_at_call 112; refine (truth_any _ _).mono ?_; rintro e w' ⟨rfl, rfl⟩))
      go_ret2
      exact ⟨ret_two (by rw [c1]; rfl) rfl, rfl⟩

theorem nand_any (x y : Int) (w : World) :
    Calls Tryz.prog 116 #[.int .i64 x, .int .i64 y] w fun e w' => e = .returned (.tuple #[.int .i64 (nandN x y), .int .i64 (bitE x y)]) ∧ w' = w := by
  cases hx : isT x
  · have e : nandN x y = 0 := by unfold nandN bitB; simp [hx]
    have e2 : bitE x y = 10 := by unfold bitE bitB; simp [hx]
    rw [e, e2]
    go_enter Tryz.func116, Tryz.ntmps116
    go_wp2_with (go_at_call 161; refine (isTruth_any _ _).mono ?_; rintro e w' ⟨rfl, rfl⟩)
    go_ret2
    exact ⟨rfl, rfl⟩
  cases hy : isT y
  · have e : nandN x y = 0 := by unfold nandN bitB; simp [hy]
    have e2 : bitE x y = 10 := by unfold bitE bitB; simp [hy]
    rw [e, e2]
    go_enter Tryz.func116, Tryz.ntmps116
    go_wp2_with (go_at_call 161; refine (isTruth_any _ _).mono ?_; rintro e w' ⟨rfl, rfl⟩)
    go_ret2
    exact ⟨rfl, rfl⟩
  · have e : nandN x y = tr (x == 0 || y == 0) := by unfold nandN bitB; simp [hx, hy]
    have e2 : bitE x y = 0 := by unfold bitE bitB; simp [hx, hy]
    rw [e, e2]
    clear e e2
    by_cases c : x = 0
    · subst c
      go_enter Tryz.func116, Tryz.ntmps116
      go_wp2_with (first | (go_at_call 161; refine (isTruth_any _ _).mono ?_; rintro e w' ⟨rfl, rfl⟩) | (go_at_call 112; refine (truth_any _ _).mono ?_; rintro e w' ⟨rfl, rfl⟩))
      go_ret2
      exact ⟨rfl, rfl⟩
    · have c1 : (x == 0) = false := by simp [c]
      go_enter Tryz.func116, Tryz.ntmps116
      go_wp2_with (first | (go_at_call 161; refine (isTruth_any _ _).mono ?_; rintro e w' ⟨rfl, rfl⟩) | (go_at_call 112; refine (truth_any _ _).mono ?_; rintro e w' ⟨rfl, rfl⟩))
      go_ret2
      exact ⟨ret_two (by rw [c1]; rfl) rfl, rfl⟩

theorem quotient_any (x y : Int) (hx : inr x = true) (hy : inr y = true) (w : World) :
    Calls Tryz.prog 110 #[.int .i64 x, .int .i64 y] w fun e w' => e = .returned (.tuple #[.int .i64 (divN x y), .int .i64 (divE x y)]) ∧ w' = w := by
  rw [inr_iff] at hx hy
  by_cases c0 : y = 0
  · subst c0
    have e : divN x 0 = 0 := rfl
    have e2 : divE x 0 = 10 := rfl
    rw [e, e2]
    go_enter Tryz.func110, Tryz.ntmps110
    go_wp2
    go_ret2
    exact ⟨rfl, rfl⟩
  have eN : divN x y = cut (x.fdiv y) := by unfold divN; rw [if_neg c0]
  have eE : divE x y = ovr (x.fdiv y) := by unfold divE; rw [if_neg c0]
  rw [eN, eE]
  clear eN eE
  by_cases c1 : x = -9223372036854775808 ∧ y = -1
  · obtain ⟨rfl, rfl⟩ := c1
    go_enter Tryz.func110, Tryz.ntmps110
    go_wp2
    go_ret2
    exact ⟨rfl, rfl⟩
  have hi := inr_iff.2 (fdiv_inr hx c0 c1)
  rw [cut_yes hi, ovr_yes hi]
  have ti := tdiv_inr hx c1
  rcases (show x ≤ -9223372036854775808 ∨ (-9223372036854775808 < x ∧ x < 0) ∨ 0 ≤ x by omega) with c3 | c3 | c3
  · have b1 : (x == -9223372036854775808) = true := by simp; omega
    have b2 : decide (x < 0) = true := by simp; omega
    have b4 : y ≠ -1 := fun h => c1 ⟨by omega, h⟩
    clear c1
    by_cases c2 : x.tmod y = 0
    · have hc := c2
      have t1 : (x.tmod y != 0) = false := by simp [c2]
      clear c2
      have hc' : x.fdiv y = x.tdiv y := fdiv_same (Or.inl hc) c0
      rw [hc']
      clear hc hc' hi
      go_enter Tryz.func110, Tryz.ntmps110
      go_wp2
      go_ret2
      exact ⟨rfl, rfl⟩
    · have t1 : (x.tmod y != 0) = true := by simpa [bne_iff_ne] using c2
      by_cases c5 : y < 0
      · have b3 : decide (y < 0) = true := by simp; omega
        have ef : x.fdiv y = x.tdiv y := fdiv_same (Or.inr (by omega)) c0
        rw [ef]
        clear ef hi c2
        go_enter Tryz.func110, Tryz.ntmps110
        go_wp2
        go_ret2
        exact ⟨rfl, rfl⟩
      · have b3 : decide (y < 0) = false := by simp; omega
        have ef : x.fdiv y = x.tdiv y - 1 := fdiv_less c2 (by omega) c0
        rw [inr_iff, ef] at hi
        rw [ef]
        clear ef c2
        go_enter Tryz.func110, Tryz.ntmps110
        go_wp2
        go_ret2
        exact ⟨rfl, rfl⟩
  · have b1 : (x == -9223372036854775808) = false := by simp; omega
    have b2 : decide (x < 0) = true := by simp; omega
    clear c1
    by_cases c2 : x.tmod y = 0
    · have hc := c2
      have t1 : (x.tmod y != 0) = false := by simp [c2]
      clear c2
      have hc' : x.fdiv y = x.tdiv y := fdiv_same (Or.inl hc) c0
      rw [hc']
      clear hc hc' hi
      go_enter Tryz.func110, Tryz.ntmps110
      go_wp2
      go_ret2
      exact ⟨rfl, rfl⟩
    · have t1 : (x.tmod y != 0) = true := by simpa [bne_iff_ne] using c2
      by_cases c5 : y < 0
      · have b3 : decide (y < 0) = true := by simp; omega
        have ef : x.fdiv y = x.tdiv y := fdiv_same (Or.inr (by omega)) c0
        rw [ef]
        clear ef hi c2
        go_enter Tryz.func110, Tryz.ntmps110
        go_wp2
        go_ret2
        exact ⟨rfl, rfl⟩
      · have b3 : decide (y < 0) = false := by simp; omega
        have ef : x.fdiv y = x.tdiv y - 1 := fdiv_less c2 (by omega) c0
        rw [inr_iff, ef] at hi
        rw [ef]
        clear ef c2
        go_enter Tryz.func110, Tryz.ntmps110
        go_wp2
        go_ret2
        exact ⟨rfl, rfl⟩
  · have b1 : (x == -9223372036854775808) = false := by simp; omega
    have b2 : decide (x < 0) = false := by simp; omega
    have b5 : x.tmod y = x % y := Int.tmod_eq_emod_of_nonneg c3
    clear c1
    by_cases c2 : x.tmod y = 0
    · have hc := c2
      rw [b5] at c2
      clear b5
      have t1 : (x % y != 0) = false := by simp [c2]
      clear c2
      have hc' : x.fdiv y = x.tdiv y := fdiv_same (Or.inl hc) c0
      rw [hc']
      clear hc hc' hi
      go_enter Tryz.func110, Tryz.ntmps110
      go_wp2
      go_ret2
      exact ⟨rfl, rfl⟩
    · have t1 : (x % y != 0) = true := by simpa [bne_iff_ne, b5] using c2
      clear b5
      by_cases c5 : y < 0
      · have b3 : decide (y < 0) = true := by simp; omega
        have ef : x.fdiv y = x.tdiv y - 1 := fdiv_less c2 (by omega) c0
        rw [inr_iff, ef] at hi
        rw [ef]
        clear ef c2
        go_enter Tryz.func110, Tryz.ntmps110
        go_wp2
        go_ret2
        exact ⟨rfl, rfl⟩
      · have b3 : decide (y < 0) = false := by simp; omega
        have ef : x.fdiv y = x.tdiv y := fdiv_same (Or.inr (by omega)) c0
        rw [ef]
        clear ef hi c2
        go_enter Tryz.func110, Tryz.ntmps110
        go_wp2
        go_ret2
        exact ⟨rfl, rfl⟩

theorem residue_any (x y : Int) (hx : inr x = true) (hy : inr y = true) (w : World) :
    Calls Tryz.prog 111 #[.int .i64 x, .int .i64 y] w fun e w' => e = .returned (.int .i64 (y.fmod x)) ∧ w' = w := by
  rw [inr_iff] at hx hy
  by_cases c0 : x = 0
  · subst c0
    rw [Int.fmod_zero]
    go_enter Tryz.func111, Tryz.ntmps111
    go_wp2
    go_ret
    exact ⟨rfl, rfl⟩
  by_cases c2 : y.tmod x = 0
  · have ef := fmod_same (Or.inl c2) c0
    rw [c2] at ef
    rw [ef]
    clear ef
    go_enter Tryz.func111, Tryz.ntmps111
    go_wp2
    go_ret
    exact ⟨rfl, rfl⟩
  by_cases c5 : x < 0
  · by_cases c6 : y.tmod x < 0
    · have ef := fmod_same (y := y) (x := x) (Or.inr (by omega)) c0
      have bd := fmod_neg (y := y) c5
      rw [ef] at bd ⊢
      clear ef
      go_enter Tryz.func111, Tryz.ntmps111
      go_wp2
      go_ret
      exact ⟨rfl, rfl⟩
    · have ef := fmod_more (y := y) (x := x) c2 (by omega) c0
      have bd := fmod_neg (y := y) c5
      rw [ef] at bd ⊢
      clear ef
      go_enter Tryz.func111, Tryz.ntmps111
      go_wp2
      go_ret
      exact ⟨rfl, rfl⟩
  · have c7 : 0 < x := by omega
    by_cases c6 : y.tmod x < 0
    · have ef := fmod_more (y := y) (x := x) c2 (by omega) c0
      have bd := fmod_pos (y := y) c7
      rw [ef] at bd ⊢
      clear ef
      go_enter Tryz.func111, Tryz.ntmps111
      go_wp2
      go_ret
      exact ⟨rfl, rfl⟩
    · have ef := fmod_same (y := y) (x := x) (Or.inr (by omega)) c0
      have bd := fmod_pos (y := y) c7
      rw [ef] at bd ⊢
      clear ef
      go_enter Tryz.func111, Tryz.ntmps111
      go_wp2
      go_ret
      exact ⟨rfl, rfl⟩

theorem factorial_any (y : Int) (hy : inr y = true) (w : World) :
    Calls Tryz.prog 109 #[.int .i64 y] w fun e w' => e = .returned (.tuple #[.int .i64 (factN y), .int .i64 (factE y)]) ∧ w' = w := by
  rw [inr_iff] at hy
  by_cases c0 : y < 0
  · have e : factN y = 0 := by unfold factN; rw [if_pos c0]
    have e2 : factE y = 10 := by unfold factE; rw [if_pos c0]
    rw [e, e2]
    go_enter Tryz.func109, Tryz.ntmps109
    go_wp2
    go_ret2
    exact ⟨rfl, rfl⟩
  have e : factN y = cut (fact y.toNat) := by unfold factN; rw [if_neg c0]
  have e2 : factE y = ovr (fact y.toNat) := by unfold factE; rw [if_neg c0]
  rw [e, e2]
  clear e e2
  by_cases c1 : 20 < y
  · have hg := fact_great (n := y.toNat) (by omega)
    rw [cut_no hg, ovr_no hg]
    clear hg
    go_enter Tryz.func109, Tryz.ntmps109
    go_wp2
    go_ret2
    exact ⟨rfl, rfl⟩
  · have hs := fact_small (n := y.toNat) (by omega)
    rw [cut_yes hs, ovr_yes hs]
    clear hs
    go_enter Tryz.func109, Tryz.ntmps109
    go_wp2
    go_loop [4, 5] (fun p i => ∃ k : Nat, 1 ≤ k ∧ k ≤ 20 ∧ (k ≤ y.toNat ∨ k = 1) ∧ i = .int .i64 ((k : Int) + 1) ∧ p = .int .i64 (fact k : Nat)) (fun _ i => (22 - intOf i).toNat)
    case atStart => exact ⟨1, by omega, by omega, by omega, rfl, rfl⟩
    case round =>
      obtain ⟨k, hk1, hk2, hk3, rfl, rfl⟩ := hrel
      by_cases hlt : (k : Int) + 1 ≤ y
      · have hs := inr_iff.1 (fact_small (n := k + 1) (by omega))
        have hm : (fact k : Int) * ((k : Int) + 1) = (fact (k + 1) : Nat) := by
          rw [show fact (k + 1) = (k + 1) * fact k from rfl, Int.natCast_mul, Int.mul_comm]; rfl
        rw [← hm] at hs
        go_wp2
        go_round
        case rel => exact ⟨k + 1, by omega, by omega, by omega, by go_num, by rw [← hm]⟩
        case measure => simp [intOf]; omega
      · go_wp2
        go_ret2
        have hf : fact k = fact y.toNat := by
          rcases hk3 with h | h
          · rw [show k = y.toNat by omega]
          · subst h
            rcases (show y.toNat = 0 ∨ y.toNat = 1 by omega) with h | h <;> rw [h] <;> rfl
        exact ⟨ret_two (by rw [hf]) rfl, rfl⟩
end Go.Proofs.YtelcagfaflpolaaGreat.Nm
