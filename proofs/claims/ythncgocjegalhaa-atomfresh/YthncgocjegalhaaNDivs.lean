
/- Contracts of package num's divisor and multiple (greatest common divisor, least common multiple), over math/bits.Mul64. -/

import Derived.Test.YthncgocjegalhaaNSmall

import Derived.Deep.QuietTactic

import Derived.BigQuiet

import Derived.Laws.Bits64b

namespace Go.Proofs.Ythncgocjegalhaa.Nm

open Go.RowKit

set_option linter.unusedVariables false

theorem divisor_any (a b : Nat) (ha : a < 18446744073709551616) (hb : b < 18446744073709551616) (w : World) :
    Calls Try.prog 70 #[.int .u64 (a : Nat), .int .u64 (b : Nat)] w fun e w' => e = .returned (.int .u64 (Nat.gcd a b : Nat)) ∧ ∃ n, w' = w.drewN n := by
  go_enter Try.func70, Try.ntmps70
  go_wp2
  go_loopw [0, 1] (fun x y wr => ∃ A B : Nat, x = .int .u64 (A : Nat) ∧ y = .int .u64 (B : Nat) ∧ A < 18446744073709551616 ∧ B < 18446744073709551616 ∧ Nat.gcd A B = Nat.gcd a b ∧ ∃ n, wr = w.drewN n) (fun _ y _ => (intOf y).toNat)
  case atStart => exact ⟨a, b, rfl, rfl, ha, hb, rfl, 0, rfl⟩
  case round =>
    obtain ⟨A, B, rfl, rfl, hA, hB, hg, n, rfl⟩ := hrel
    by_cases h0 : B = 0
    · subst h0
      rw [Nat.gcd_zero_right] at hg
      go_wp2
      go_ret
      exact ⟨ret_int (by rw [hg]), n, rfl⟩
    · have t : ((B : Int) != 0) = true := by simp; omega
      have hg' : Hid (Nat.gcd B (A % B) = Nat.gcd a b) := by show _ = _; rw [← hg, Nat.gcd_comm A B, Nat.gcd_rec B A, Nat.gcd_comm]
      have hm := Nat.mod_lt A (Nat.pos_of_ne_zero h0)
      clear hg
      go_wp2
      go_quiet (fail)
      go_wp2
      go_roundw
      case rel => exact ⟨B, A % B, rfl, by go_num, hB, by omega, hg'.out, n + nq, by simp⟩
      case measure => simp [intOf]; omega

/-! ### math/bits.Mul64: the product of two words, by its halves -/

theorem wrapNn (a : Nat) (ha : a < 18446744073709551616) : IntKind.u64.wrap (a : Int) = (a : Int) := IntWalk.u64_in _ (by omega)
theorem and_mod (a : Nat) (ha : a < 18446744073709551616) : bits .and .u64 (a : Int) 4294967295 = (a : Int) % 4294967296 := by
  refine (bits_and_u64_nat a 4294967295 ha (by omega)).trans ?_
  rw [show (4294967295 : Nat) = 2 ^ 32 - 1 from rfl, Nat.and_two_pow_sub_one_eq_mod]
  omega
/-- Two numbers of two halves each: the product by the halves' products. -/
theorem by_halves (a b c d k : Nat) : (a * k + b) * (c * k + d) = a * c * (k * k) + a * d * k + b * c * k + b * d := by
  have e1 : a * k * (c * k) = a * c * (k * k) := Nat.mul_mul_mul_comm a k c k
  have e2 : a * k * d = a * d * k := Nat.mul_right_comm a k d
  have e3 : b * (c * k) = b * c * k := (Nat.mul_assoc b c k).symm
  simp only [Nat.add_mul, Nat.mul_add, e1, e2, e3]
  omega
theorem half_le {a b : Nat} (ha : a < 4294967296) (hb : b < 4294967296) : a * b ≤ 18446744065119617025 :=
  Nat.le_trans (Nat.mul_le_mul (show a ≤ 4294967295 by omega) (show b ≤ 4294967295 by omega)) (by decide)

theorem bitsMul64 (x y : Nat) (hx : x < 18446744073709551616) (hy : y < 18446744073709551616) (w : World) :
    Calls Try.prog 57 #[.int .u64 x, .int .u64 y] w fun e w' => e = .returned (.tuple #[.int .u64 ((x * y / 18446744073709551616 : Nat) : Int), .int .u64 ((x * y % 18446744073709551616 : Nat) : Int)]) ∧ w' = w := by
  have mx := and_mod x hx
  have my := and_mod y hy
  obtain ⟨a, ea⟩ : ∃ a, a = x / 4294967296 := ⟨_, rfl⟩
  obtain ⟨b, eb⟩ : ∃ b, b = x % 4294967296 := ⟨_, rfl⟩
  obtain ⟨c, ec⟩ : ∃ c, c = y / 4294967296 := ⟨_, rfl⟩
  obtain ⟨d, ed⟩ : ∃ d, d = y % 4294967296 := ⟨_, rfl⟩
  have h := by_halves a b c d 4294967296
  rw [show a * 4294967296 + b = x by omega, show c * 4294967296 + d = y by omega] at h
  rw [show (x : Int) % 4294967296 = (b : Int) by omega] at mx
  rw [show (y : Int) % 4294967296 = (d : Int) by omega] at my
  have dx : (x : Int) / 4294967296 = (a : Int) := by omega
  have dy : (y : Int) / 4294967296 = (c : Int) := by omega
  have l1 := half_le (a := a) (b := c) (by omega) (by omega)
  have l2 := half_le (a := a) (b := d) (by omega) (by omega)
  have l3 := half_le (a := b) (b := c) (by omega) (by omega)
  have l4 := half_le (a := b) (b := d) (by omega) (by omega)
  have q0 : (x : Int) * (y : Int) = ((x * y : Nat) : Int) := (Int.natCast_mul x y).symm
  have q1 : (a : Int) * (c : Int) = ((a * c : Nat) : Int) := (Int.natCast_mul a c).symm
  have q2 : (a : Int) * (d : Int) = ((a * d : Nat) : Int) := (Int.natCast_mul a d).symm
  have q3 : (b : Int) * (c : Int) = ((b * c : Nat) : Int) := (Int.natCast_mul b c).symm
  have q4 : (b : Int) * (d : Int) = ((b * d : Nat) : Int) := (Int.natCast_mul b d).symm
  generalize x * y = P at h q0 ⊢
  generalize a * c = p1 at h q1 l1
  generalize a * d = p2 at h q2 l2
  generalize b * c = p3 at h q3 l3
  generalize b * d = p4 at h q4 l4
  have HP : Hid (P = p1 * (4294967296 * 4294967296) + p2 * 4294967296 + p3 * 4294967296 + p4) := h
  have mt : bits .and .u64 ((p2 : Int) + (p4 : Int) / 4294967296) 4294967295 = ((p2 : Int) + (p4 : Int) / 4294967296) % 4294967296 := by
    have := and_mod (p2 + p4 / 4294967296) (by omega)
    rw [show ((p2 + p4 / 4294967296 : Nat) : Int) = (p2 : Int) + (p4 : Int) / 4294967296 by omega] at this
    exact this
  have wp : IntKind.u64.wrap (P : Int) = ((P % 18446744073709551616 : Nat) : Int) := by rw [IntKind.wrap_u64]; omega
  clear ea eb ec ed h
  go_enter Try.func57, Try.ntmps57
  go_wp2
  go_ret2
  have h := HP.out
  exact ⟨ret_two (by omega) (by first | rfl | omega), rfl⟩

/-! ### the least common multiple -/

theorem lcm_div {a b : Nat} : a / Nat.gcd a b * b = Nat.lcm a b := by
  rw [Nat.lcm, Nat.div_mul_right_comm (Nat.gcd_dvd_left a b)]
theorem multiple_any (x y : Int) (hx : inr x = true) (hy : inr y = true) (w : World) :
    Calls Try.prog 71 #[.int .i64 x, .int .i64 y] w fun e w' => e = .returned (.tuple #[.int .i64 (cut (Nat.lcm x.natAbs y.natAbs : Nat)), .int .i64 (ovr (Nat.lcm x.natAbs y.natAbs : Nat))]) ∧ ∃ n, w' = w.drewN n := by
  have hx' := hx
  have hy' := hy
  rw [inr_iff] at hx hy
  by_cases c0 : x = 0
  · subst c0
    rw [show Nat.lcm (0 : Int).natAbs y.natAbs = 0 from Nat.lcm_zero_left _]
    go_enter Try.func71, Try.ntmps71
    go_wp2
    go_ret2
    exact ⟨rfl, 0, rfl⟩
  by_cases c1 : y = 0
  · subst c1
    rw [show Nat.lcm x.natAbs (0 : Int).natAbs = 0 from Nat.lcm_zero_right _]
    have b0 : (x == 0) = false := by simp [c0]
    go_enter Try.func71, Try.ntmps71
    go_wp2
    go_ret2
    exact ⟨rfl, 0, rfl⟩
  have b0 : (x == 0) = false := by simp [c0]
  have b1 : (y == 0) = false := by simp [c1]
  have hax : x.natAbs < 18446744073709551616 := by omega
  have hay : y.natAbs < 18446744073709551616 := by omega
  have hg : 0 < Nat.gcd x.natAbs y.natAbs := Nat.gcd_pos_of_pos_left _ (by omega)
  have hd : x.natAbs / Nat.gcd x.natAbs y.natAbs < 18446744073709551616 := Nat.lt_of_le_of_lt (Nat.div_le_self _ _) hax
  have hdl : Hid (IntKind.u64.wrap ((x.natAbs : Int) / (Nat.gcd x.natAbs y.natAbs : Nat)) = ((x.natAbs / Nat.gcd x.natAbs y.natAbs : Nat) : Int)) := by
    show _ = _
    rw [← Int.natCast_ediv, wrapNn _ hd]
  by_cases c2 : Nat.lcm x.natAbs y.natAbs < 18446744073709551616
  · have p1 : x.natAbs / Nat.gcd x.natAbs y.natAbs * y.natAbs / 18446744073709551616 = 0 := by rw [lcm_div]; omega
    have p2 : x.natAbs / Nat.gcd x.natAbs y.natAbs * y.natAbs % 18446744073709551616 = Nat.lcm x.natAbs y.natAbs := by rw [lcm_div]; omega
    have hbm := fun w => bitsMul64 _ _ hd hay w
    rw [p1, p2] at hbm
    clear p1 p2
    go_enter Try.func71, Try.ntmps71
    go_wp2_with (first | (go_at_call 62; refine (size_any _ (by assumption) _).mono ?_; rintro e w' ⟨rfl, rfl⟩) | (go_at_call 70; refine (divisor_any _ _ (by assumption) (by assumption) _).mono ?_; rintro e w' ⟨rfl, n, rfl⟩) | (go_at_call 57; rw [hdl.out]; refine (hbm _).mono ?_; rintro e w' ⟨rfl, rfl⟩) | (go_at_call 61; refine (unsigned_any _ (by assumption) _).mono ?_; rintro e w' ⟨rfl, rfl⟩))
    go_ret2
    exact ⟨rfl, _, rfl⟩
  · have c3 : inr (Nat.lcm x.natAbs y.natAbs : Nat) = false := inr_no.2 (by omega)
    rw [cut_no c3, ovr_no c3]
    have p1 : 0 < x.natAbs / Nat.gcd x.natAbs y.natAbs * y.natAbs / 18446744073709551616 := by rw [lcm_div]; omega
    have p2 : ((x.natAbs / Nat.gcd x.natAbs y.natAbs * y.natAbs / 18446744073709551616 : Nat) : Int) < 18446744073709551616 := by
      have := Nat.mul_lt_mul'' hd hay
      omega
    have hbm := fun w => bitsMul64 _ _ hd hay w
    generalize x.natAbs / Nat.gcd x.natAbs y.natAbs * y.natAbs / 18446744073709551616 = hi at hbm p1 p2
    generalize x.natAbs / Nat.gcd x.natAbs y.natAbs * y.natAbs % 18446744073709551616 = lo at hbm
    have p3 : ((hi : Int) != 0) = true := by simp; omega
    go_enter Try.func71, Try.ntmps71
    go_wp2_with (first | (go_at_call 62; refine (size_any _ (by assumption) _).mono ?_; rintro e w' ⟨rfl, rfl⟩) | (go_at_call 70; refine (divisor_any _ _ (by assumption) (by assumption) _).mono ?_; rintro e w' ⟨rfl, n, rfl⟩) | (go_at_call 57; rw [hdl.out]; refine (hbm _).mono ?_; rintro e w' ⟨rfl, rfl⟩) | (go_at_call 61; refine (unsigned_any _ (by assumption) _).mono ?_; rintro e w' ⟨rfl, rfl⟩))
    go_ret2
    exact ⟨rfl, _, rfl⟩
end Go.Proofs.Ythncgocjegalhaa.Nm
