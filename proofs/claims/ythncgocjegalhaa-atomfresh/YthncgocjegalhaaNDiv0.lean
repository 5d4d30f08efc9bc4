
/- Contracts of math/bits.Len64, LeadingZeros64 and Div64 at small divisors (1 to 33), the library's own text walked. -/

import Derived.Test.YthncgocjegalhaaNDivs

import Derived.Test.YthncgocjegalhaaNMath3

import Derived.Lib.Tables

namespace Go.Proofs.Ythncgocjegalhaa.Nm

open Go.RowKit

set_option linter.unusedVariables false

theorem wrap_tw {n : Int} (h0 : 0 ≤ n) (h6 : n ≤ 6) : wrap64 (wrap64 n) = n := by unfold wrap64; omega
theorem split33 {y : Nat} (h2 : y ≤ 33) : y = 0 ∨ y = 1 ∨ y = 2 ∨ y = 3 ∨ y = 4 ∨ y = 5 ∨ y = 6 ∨ y = 7 ∨ y = 8 ∨ y = 9 ∨ y = 10 ∨ y = 11 ∨ y = 12 ∨ y = 13 ∨ y = 14 ∨ y = 15 ∨ y = 16 ∨ y = 17 ∨ y = 18 ∨ y = 19 ∨ y = 20 ∨ y = 21 ∨ y = 22 ∨ y = 23 ∨ y = 24 ∨ y = 25 ∨ y = 26 ∨ y = 27 ∨ y = 28 ∨ y = 29 ∨ y = 30 ∨ y = 31 ∨ y = 32 ∨ y = 33 := by omega
set_option maxHeartbeats 2000000 in
theorem bitsLen64 (y : Nat) (c : Int) (h2 : y ≤ 33) (hc : Lib.len8 y = c) (h0 : 0 ≤ c) (h6 : c ≤ 6) (w : World) :
    Calls Try.prog 82 #[.int .u64 (y : Nat)] w fun e w' => e = .returned (.int .i64 c) ∧ w' = w := by
  have HC : Hid (Lib.len8 y = c) := hc
  clear hc
  rcases split33 h2 with rfl | rfl | rfl | rfl | rfl | rfl | rfl | rfl | rfl | rfl | rfl | rfl | rfl | rfl | rfl | rfl | rfl | rfl | rfl | rfl | rfl | rfl | rfl | rfl | rfl | rfl | rfl | rfl | rfl | rfl | rfl | rfl | rfl | rfl
  all_goals
    clear h2
    go_enter Try.func82, Try.ntmps82
    go_wp2
    go_ret
    refine ⟨ret_int ?_, rfl⟩
    have h : Lib.len8 _ = c := HC.out
    first | (rw [wrap_id (by omega)]; exact h) | (rw [← h]; rw [← h] at h0 h6; exact wrap_tw h0 h6)

theorem bitsLead (y : Nat) (c : Int) (h2 : y ≤ 33) (hc : Lib.len8 y = c) (h0 : 0 ≤ c) (h6 : c ≤ 6) (w : World) :
    Calls Try.prog 81 #[.int .u64 (y : Nat)] w fun e w' => e = .returned (.int .i64 (64 - c)) ∧ w' = w := by
  have hz := fun w => bitsLen64 y c h2 hc h0 h6 w
  clear hc
  go_enter Try.func81, Try.ntmps81
  go_wp2_with (go_at_call 82; refine (hz _).mono ?_; rintro e w' ⟨rfl, rfl⟩)
  go_ret
  exact ⟨rfl, rfl⟩

theorem ret_tup {k l : IntKind} {a b c : Int} (h : a = b) : ∃ r : Int, Ending.returned (.tuple #[.int k a, .int l c]) = .returned (.tuple #[.int k b, .int l r]) := ⟨c, by rw [h]⟩

theorem bitsDiv_plain (lo y : Nat) (h1 : 1 ≤ y) (h2 : y ≤ 33) (hl : lo < 18446744073709551616) (w : World) :
    Calls Try.prog 80 #[.int .u64 ((0 : Nat) : Int), .int .u64 (lo : Nat), .int .u64 (y : Nat)] w fun e w' => (∃ r : Int, e = .returned (.tuple #[.int .u64 ((lo / y : Nat) : Int), .int .u64 r])) ∧ ∃ n, w' = w.drewN n := by
  have hq := Nat.div_le_self lo y
  have t0 : ((y : Int) == 0) = false := by simp; omega
  go_enter Try.func80, Try.ntmps80
  go_wp2
  go_quiet (fail)
  go_wp2
  go_ret2
  exact ⟨ret_tup (by rw [← Int.natCast_ediv, wrapNn _ (by omega)]), nq, rfl⟩

theorem or_plus (a b s : Nat) (ha : a * 2 ^ s < 18446744073709551616) (hb : b < 2 ^ s) (hs : b < 18446744073709551616) : bits .or .u64 ((a * 2 ^ s : Nat) : Int) ((b : Nat) : Int) = ((a * 2 ^ s + b : Nat) : Int) := by
  rw [bits_or_u64_nat _ _ ha hs, Nat.mul_comm, Nat.two_pow_add_eq_or_of_lt hb]
theorem wrapU (n : Int) : ∃ m : Nat, IntKind.u64.wrap n = (m : Int) ∧ m < 18446744073709551616 ∧ (m : Int) = n % 18446744073709551616 := by
  refine ⟨(n % 18446744073709551616).toNat, ?_, ?_, ?_⟩
  · rw [IntKind.wrap_u64]; omega
  · omega
  · omega

end Go.Proofs.Ythncgocjegalhaa.Nm
