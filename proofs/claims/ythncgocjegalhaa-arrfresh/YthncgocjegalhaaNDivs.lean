
/- Contracts of package num's divisor and multiple (greatest common divisor, least common multiple), over math/bits.Mul64. -/

import Derived.Test.YthncgocjegalhaaNSmall

import Derived.Deep.QuietTactic

import Derived.BigQuiet

import Derived.Laws.Bits64b

namespace Go.Proofs.Ythncgocjegalhaa.Nm

open Go.RowKit

set_option linter.unusedVariables false

/-! ### math/bits.Mul64: the product of two words, by its halves -/

theorem and_mod (a : Nat) (ha : a < 18446744073709551616) : bits .and .u64 (a : Int) 4294967295 = (a : Int) % 4294967296 := by
  refine (bits_and_u64_nat a 4294967295 ha (by omega)).trans ?_
  rw [show (4294967295 : Nat) = 2 ^ 32 - 1 from rfl, Nat.and_two_pow_sub_one_eq_mod]
  omega
/-- Two numbers of two halves each: the product by the halves' products. -/
theorem by_halves (a b c d k : Nat) : (a * k + b) * (c * k + d) = a * c * (k * k) + a * d * k + b * c * k + b * d := by
  have e1 : a * k * (c * k) = a * c * (k * k) := Nat.mul_mul_mul_comm a k c k
  have e2 : a * k * d = a * d * k := Nat.mul_right_comm a k d
  have e3 : b * (c * k) = b * c * k := (Nat.mul_assoc b c k).symm
  simp only [Nat.add_mul, Nat.mul_add, e1, e2, e3]
  omega
theorem half_le {a b : Nat} (ha : a < 4294967296) (hb : b < 4294967296) : a * b ≤ 18446744065119617025 :=
  Nat.le_trans (Nat.mul_le_mul (show a ≤ 4294967295 by omega) (show b ≤ 4294967295 by omega)) (by decide)

theorem bitsMul64 (x y : Nat) (hx : x < 18446744073709551616) (hy : y < 18446744073709551616) (w : World) :
    Calls Try.prog 57 #[.int .u64 x, .int .u64 y] w fun e w' => e = .returned (.tuple #[.int .u64 ((x * y / 18446744073709551616 : Nat) : Int), .int .u64 ((x * y % 18446744073709551616 : Nat) : Int)]) ∧ w' = w := by
  have mx := and_mod x hx
  have my := and_mod y hy
  obtain ⟨a, ea⟩ : ∃ a, a = x / 4294967296 := ⟨_, rfl⟩
  obtain ⟨b, eb⟩ : ∃ b, b = x % 4294967296 := ⟨_, rfl⟩
  obtain ⟨c, ec⟩ : ∃ c, c = y / 4294967296 := ⟨_, rfl⟩
  obtain ⟨d, ed⟩ : ∃ d, d = y % 4294967296 := ⟨_, rfl⟩
  have h := by_halves a b c d 4294967296
  rw [show a * 4294967296 + b = x by omega, show c * 4294967296 + d = y by omega] at h
  rw [show (x : Int) % 4294967296 = (b : Int) by omega] at mx
  rw [show (y : Int) % 4294967296 = (d : Int) by omega] at my
  have dx : (x : Int) / 4294967296 = (a : Int) := by omega
  have dy : (y : Int) / 4294967296 = (c : Int) := by omega
  have l1 := half_le (a := a) (b := c) (by omega) (by omega)
  have l2 := half_le (a := a) (b := d) (by omega) (by omega)
  have l3 := half_le (a := b) (b := c) (by omega) (by omega)
  have l4 := half_le (a := b) (b := d) (by omega) (by omega)
  have q0 : (x : Int) * (y : Int) = ((x * y : Nat) : Int) := (Int.natCast_mul x y).symm
  have q1 : (a : Int) * (c : Int) = ((a * c : Nat) : Int) := (Int.natCast_mul a c).symm
  have q2 : (a : Int) * (d : Int) = ((a * d : Nat) : Int) := (Int.natCast_mul a d).symm
  have q3 : (b : Int) * (c : Int) = ((b * c : Nat) : Int) := (Int.natCast_mul b c).symm
  have q4 : (b : Int) * (d : Int) = ((b * d : Nat) : Int) := (Int.natCast_mul b d).symm
  generalize x * y = P at h q0 ⊢
  generalize a * c = p1 at h q1 l1
  generalize a * d = p2 at h q2 l2
  generalize b * c = p3 at h q3 l3
  generalize b * d = p4 at h q4 l4
  have HP : Hid (P = p1 * (4294967296 * 4294967296) + p2 * 4294967296 + p3 * 4294967296 + p4) := h
  have mt : bits .and .u64 ((p2 : Int) + (p4 : Int) / 4294967296) 4294967295 = ((p2 : Int) + (p4 : Int) / 4294967296) % 4294967296 := by
    have := and_mod (p2 + p4 / 4294967296) (by omega)
    rw [show ((p2 + p4 / 4294967296 : Nat) : Int) = (p2 : Int) + (p4 : Int) / 4294967296 by omega] at this
    exact this
  have wp : IntKind.u64.wrap (P : Int) = ((P % 18446744073709551616 : Nat) : Int) := by rw [IntKind.wrap_u64]; omega
  clear ea eb ec ed h
  go_enter Try.func57, Try.ntmps57
  go_wp2
  go_ret2
  have h := HP.out
  exact ⟨ret_two (by omega) (by first | rfl | omega), rfl⟩

/-! ### the least common multiple -/

end Go.Proofs.Ythncgocjegalhaa.Nm
