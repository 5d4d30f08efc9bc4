/- Contracts of package num's divisor and multiple (greatest common divisor, least common multiple), over math/bits.Mul64. -/
import Derived.Test.YtaajliecbchklaaSmall
import Derived.Deep.QuietTactic
import Derived.BigQuiet
import Derived.Lib.Mul64
import Derived.Laws.Bits64b
namespace Go.Proofs.Ytaajliecbchklaa
open Go.RowKit
set_option linter.unusedVariables false

theorem divisor_any (a b : Nat) (ha : a < 18446744073709551616) (hb : b < 18446744073709551616) (w : World) :
    Calls Try.prog 31 #[.int .u64 (a : Nat), .int .u64 (b : Nat)] w fun e w' => e = .returned (.int .u64 (Nat.gcd a b : Nat)) ∧ ∃ n, w' = w.drewN n := by
  go_enter Try.func31, Try.ntmps31
  go_wp2
  go_loopw [0, 1] (fun x y wr => ∃ A B : Nat, x = .int .u64 (A : Nat) ∧ y = .int .u64 (B : Nat) ∧ A < 18446744073709551616 ∧ B < 18446744073709551616 ∧ Nat.gcd A B = Nat.gcd a b ∧ ∃ n, wr = w.drewN n) (fun _ y _ => (intOf y).toNat)
  case atStart => exact ⟨a, b, rfl, rfl, ha, hb, rfl, 0, rfl⟩
  case round =>
    obtain ⟨A, B, rfl, rfl, hA, hB, hg, n, rfl⟩ := hrel
    by_cases h0 : B = 0
    · subst h0
      rw [Nat.gcd_zero_right] at hg
      go_wp2
      go_ret
      exact ⟨ret_int (by rw [hg]), n, rfl⟩
    · have t : ((B : Int) != 0) = true := by simp; omega
      have hg' : Hid (Nat.gcd B (A % B) = Nat.gcd a b) := by show _ = _; rw [← hg, Nat.gcd_comm A B, Nat.gcd_rec B A, Nat.gcd_comm]
      have hm := Nat.mod_lt A (Nat.pos_of_ne_zero h0)
      clear hg
      go_wp2
      go_quiet (fail)
      go_wp2
      go_roundw
      case rel => exact ⟨B, A % B, rfl, by go_num, hB, by omega, hg'.out, n + nq, by simp⟩
      case measure => simp [intOf]; omega

/-! ### math/bits.Mul64: the library's own text, walked as the kit's shelf walks it -/
theorem maskN (a : Nat) (ha : a < 18446744073709551616) : bits .and .u64 (a : Int) 4294967295 = ((a % 4294967296 : Nat) : Int) := by
  have h := bits_and_u64_nat a 4294967295 ha (by omega)
  have e : a &&& 4294967295 = a % 4294967296 := Nat.and_two_pow_sub_one_eq_mod a 32
  rw [e] at h
  exact h
theorem divNn (a : Nat) : (a : Int) / 4294967296 = ((a / 4294967296 : Nat) : Int) := by omega
theorem mulNn (a b : Nat) : (a : Int) * (b : Int) = ((a * b : Nat) : Int) := (Int.natCast_mul a b).symm
theorem addNn (a b : Nat) : (a : Int) + (b : Int) = ((a + b : Nat) : Int) := (Int.natCast_add a b).symm
theorem wrapNn (a : Nat) (ha : a < 18446744073709551616) : IntKind.u64.wrap (a : Int) = (a : Int) := by rw [IntKind.wrap_u64]; omega
theorem wrapMn (a : Nat) : IntKind.u64.wrap (a : Int) = ((a % 18446744073709551616 : Nat) : Int) := by rw [IntKind.wrap_u64]; omega

set_option maxHeartbeats 1000000 in
theorem bitsMul64 (x y : Nat) (hx : x < 18446744073709551616) (hy : y < 18446744073709551616) (w : World) :
    Calls Try.prog 49 #[.int .u64 x, .int .u64 y] w fun e w' => e = .returned (.tuple #[.int .u64 ((x * y / 18446744073709551616 : Nat) : Int), .int .u64 ((x * y % 18446744073709551616 : Nat) : Int)]) ∧ w' = w := by
  obtain ⟨bd, bt, bw, hhi⟩ := Lib.mul64_hi x y hx hy
  have ba := Lib.half_mul_le (a := x / 4294967296) (b := y / 4294967296) (by omega) (by omega)
  have bb := Lib.half_mul_le (a := x / 4294967296) (b := y % 4294967296) (by omega) (by omega)
  have bc := Lib.half_mul_le (a := x % 4294967296) (b := y / 4294967296) (by omega) (by omega)
  have ba' : x / 4294967296 * (y / 4294967296) < 18446744073709551616 := by omega
  have bb' : x / 4294967296 * (y % 4294967296) < 18446744073709551616 := by omega
  have bc' : x % 4294967296 * (y / 4294967296) < 18446744073709551616 := by omega
  have bh1 : x / 4294967296 * (y / 4294967296) + (x / 4294967296 * (y % 4294967296) + x % 4294967296 * (y % 4294967296) / 4294967296) / 4294967296 < 18446744073709551616 := by omega
  have bh : x / 4294967296 * (y / 4294967296) + (x / 4294967296 * (y % 4294967296) + x % 4294967296 * (y % 4294967296) / 4294967296) / 4294967296 + ((x / 4294967296 * (y % 4294967296) + x % 4294967296 * (y % 4294967296) / 4294967296) % 4294967296 + x % 4294967296 * (y / 4294967296)) / 4294967296 < 18446744073709551616 := by omega
  go_enter Try.func49, Try.ntmps49
  go_wp2
  simp only [maskN x hx, maskN y hy, divNn, mulNn, addNn, wrapNn _ bd, wrapNn _ bb', wrapNn _ bt, maskN _ bt, wrapNn _ bc', wrapNn _ bw, wrapNn _ ba', wrapNn _ bh1, wrapNn _ bh, wrapMn (x * y)]
  rw [hhi]
  go_ret2
  exact ⟨rfl, rfl⟩

/-! ### the least common multiple -/
theorem lcm_div {a b : Nat} : a / Nat.gcd a b * b = Nat.lcm a b := by
  rw [Nat.lcm, Nat.div_mul_right_comm (Nat.gcd_dvd_left a b)]
theorem multiple_any (x y : Int) (hx : inr x = true) (hy : inr y = true) (w : World) :
    Calls Try.prog 33 #[.int .i64 x, .int .i64 y] w fun e w' => e = .returned (.tuple #[.int .i64 (cut (Nat.lcm x.natAbs y.natAbs : Nat)), .int .i64 (ovr (Nat.lcm x.natAbs y.natAbs : Nat))]) ∧ ∃ n, w' = w.drewN n := by
  have hx' := hx
  have hy' := hy
  rw [inr_iff] at hx hy
  by_cases c0 : x = 0
  · subst c0
    rw [show Nat.lcm (0 : Int).natAbs y.natAbs = 0 from Nat.lcm_zero_left _]
    go_enter Try.func33, Try.ntmps33
    go_wp2
    go_ret2
    exact ⟨rfl, 0, rfl⟩
  by_cases c1 : y = 0
  · subst c1
    rw [show Nat.lcm x.natAbs (0 : Int).natAbs = 0 from Nat.lcm_zero_right _]
    have b0 : (x == 0) = false := by simp [c0]
    go_enter Try.func33, Try.ntmps33
    go_wp2
    go_ret2
    exact ⟨rfl, 0, rfl⟩
  have b0 : (x == 0) = false := by simp [c0]
  have b1 : (y == 0) = false := by simp [c1]
  have hax : x.natAbs < 18446744073709551616 := by omega
  have hay : y.natAbs < 18446744073709551616 := by omega
  have hg : 0 < Nat.gcd x.natAbs y.natAbs := Nat.gcd_pos_of_pos_left _ (by omega)
  have hd : x.natAbs / Nat.gcd x.natAbs y.natAbs < 18446744073709551616 := Nat.lt_of_le_of_lt (Nat.div_le_self _ _) hax
  have hdl : Hid (IntKind.u64.wrap ((x.natAbs : Int) / (Nat.gcd x.natAbs y.natAbs : Nat)) = ((x.natAbs / Nat.gcd x.natAbs y.natAbs : Nat) : Int)) := by
    show _ = _
    rw [← Int.natCast_ediv, wrapNn _ hd]
  by_cases c2 : Nat.lcm x.natAbs y.natAbs < 18446744073709551616
  · have p1 : x.natAbs / Nat.gcd x.natAbs y.natAbs * y.natAbs / 18446744073709551616 = 0 := by rw [lcm_div]; omega
    have p2 : x.natAbs / Nat.gcd x.natAbs y.natAbs * y.natAbs % 18446744073709551616 = Nat.lcm x.natAbs y.natAbs := by rw [lcm_div]; omega
    have hbm := fun w => bitsMul64 _ _ hd hay w
    rw [p1, p2] at hbm
    clear p1 p2
    go_enter Try.func33, Try.ntmps33
    go_wp2_with (first | (go_at_call 32; refine (size_any _ (by assumption) _).mono ?_; rintro e w' ⟨rfl, rfl⟩) | (go_at_call 31; refine (divisor_any _ _ (by assumption) (by assumption) _).mono ?_; rintro e w' ⟨rfl, n, rfl⟩) | (go_at_call 49; rw [hdl.out]; refine (hbm _).mono ?_; rintro e w' ⟨rfl, rfl⟩) | (go_at_call 30; refine (unsigned_any _ (by assumption) _).mono ?_; rintro e w' ⟨rfl, rfl⟩))
    go_ret2
    exact ⟨rfl, _, rfl⟩
  · have c3 : inr (Nat.lcm x.natAbs y.natAbs : Nat) = false := inr_no.2 (by omega)
    rw [cut_no c3, ovr_no c3]
    have p1 : 0 < x.natAbs / Nat.gcd x.natAbs y.natAbs * y.natAbs / 18446744073709551616 := by rw [lcm_div]; omega
    have p2 : ((x.natAbs / Nat.gcd x.natAbs y.natAbs * y.natAbs / 18446744073709551616 : Nat) : Int) < 18446744073709551616 := by
      have := Nat.mul_lt_mul'' hd hay
      omega
    have hbm := fun w => bitsMul64 _ _ hd hay w
    generalize x.natAbs / Nat.gcd x.natAbs y.natAbs * y.natAbs / 18446744073709551616 = hi at hbm p1 p2
    generalize x.natAbs / Nat.gcd x.natAbs y.natAbs * y.natAbs % 18446744073709551616 = lo at hbm
    have p3 : ((hi : Int) != 0) = true := by simp; omega
    go_enter Try.func33, Try.ntmps33
    go_wp2_with (first | (go_at_call 32; refine (size_any _ (by assumption) _).mono ?_; rintro e w' ⟨rfl, rfl⟩) | (go_at_call 31; refine (divisor_any _ _ (by assumption) (by assumption) _).mono ?_; rintro e w' ⟨rfl, n, rfl⟩) | (go_at_call 49; rw [hdl.out]; refine (hbm _).mono ?_; rintro e w' ⟨rfl, rfl⟩) | (go_at_call 30; refine (unsigned_any _ (by assumption) _).mono ?_; rintro e w' ⟨rfl, rfl⟩))
    go_ret2
    exact ⟨rfl, _, rfl⟩
end Go.Proofs.Ytaajliecbchklaa
