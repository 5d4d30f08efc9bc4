
/- Contracts: math/bits.Len64; how many binary digits a number has. -/

import Derived.Test.YtjnlkdeiccllgaaZP
import Derived.Lib.BitFns
import Derived.Laws.BitsLemmas



namespace Go.Proofs.Ytjnlkdeiccllgaa

open Go.RowKit

set_option linter.unusedVariables false

set_option maxHeartbeats 2000000 in
theorem len64_000 (y : Nat) (hy : y < 18446744073709551616) (ha : y < 4294967296) (y1 : Nat) (e1 : y1 = y) (hb : y1 < 65536) (y2 : Nat) (e2 : y2 = y1) (hc : y2 < 256) (y3 : Nat) (e3 : y3 = y2) (h3 : y3 ≤ 255) (L : Nat) (hL : Lib.bitLen y3 = L) (hL8 : L ≤ 8) (w : World) :
    Calls Try.prog 57 #[.int .u64 (y : Nat)] w fun e w' => e = .returned (.int .i64 (0 + (L : Int))) ∧ w' = w := by
  have t1 : decide ((4294967296 : Int) ≤ (y : Int)) = false := by simp; omega
  have t1b : decide (4294967296 ≤ y) = false := by simp; omega
  have t2 : decide ((65536 : Int) ≤ (y1 : Int)) = false := by simp; omega
  have t2b : decide (65536 ≤ y1) = false := by simp; omega
  have t3 : decide ((256 : Int) ≤ (y2 : Int)) = false := by simp; omega
  have t3b : decide (256 ≤ y2) = false := by simp; omega
  have d4 : (y3 : Int) % 256 = (y3 : Int) := by omega
  have d4b : y3 % 256 = y3 := by omega
  have e8 : Lib.len8 (y3 : Int) = (L : Int) := by rw [Lib.len8_of _ (by omega) (by omega), Int.toNat_natCast, hL]
  have l0 : (0 : Int) ≤ (y3 : Int) := by omega
  have l1 : (y3 : Int) ≤ 255 := by omega
  have wL : IntKind.i64.wrap (L : Int) = (L : Int) := wrZ (by omega) (by omega)
  have wS : IntKind.i64.wrap (0 + (L : Int)) = 0 + (L : Int) := wrZ (by omega) (by omega)
  subst e1
  subst e2
  subst e3
  clear hL ha hb hc
  go_enter Try.func57, Try.ntmps57
  go_wp2
  go_ret
  exact ⟨ret_int (by first | rfl | omega), rfl⟩

set_option maxHeartbeats 2000000 in
theorem len64_001 (y : Nat) (hy : y < 18446744073709551616) (ha : y < 4294967296) (y1 : Nat) (e1 : y1 = y) (hb : y1 < 65536) (y2 : Nat) (e2 : y2 = y1) (hc : 256 ≤ y2) (y3 : Nat) (e3 : y3 = y2 / 256) (h3 : y3 ≤ 255) (L : Nat) (hL : Lib.bitLen y3 = L) (hL8 : L ≤ 8) (w : World) :
    Calls Try.prog 57 #[.int .u64 (y : Nat)] w fun e w' => e = .returned (.int .i64 (8 + (L : Int))) ∧ w' = w := by
  have t1 : decide ((4294967296 : Int) ≤ (y : Int)) = false := by simp; omega
  have t1b : decide (4294967296 ≤ y) = false := by simp; omega
  have t2 : decide ((65536 : Int) ≤ (y1 : Int)) = false := by simp; omega
  have t2b : decide (65536 ≤ y1) = false := by simp; omega
  have t3 : decide ((256 : Int) ≤ (y2 : Int)) = true := by simp; omega
  have t3b : decide (256 ≤ y2) = true := by simp; omega
  have d3 : (y2 : Int) / 256 = (y3 : Int) := by omega
  have d4 : (y3 : Int) % 256 = (y3 : Int) := by omega
  have d4b : y3 % 256 = y3 := by omega
  have e8 : Lib.len8 (y3 : Int) = (L : Int) := by rw [Lib.len8_of _ (by omega) (by omega), Int.toNat_natCast, hL]
  have l0 : (0 : Int) ≤ (y3 : Int) := by omega
  have l1 : (y3 : Int) ≤ 255 := by omega
  have wL : IntKind.i64.wrap (L : Int) = (L : Int) := wrZ (by omega) (by omega)
  have wS : IntKind.i64.wrap (8 + (L : Int)) = 8 + (L : Int) := wrZ (by omega) (by omega)
  subst e1
  subst e2
  clear hL e3 ha hb hc
  go_enter Try.func57, Try.ntmps57
  go_wp2
  go_ret
  exact ⟨ret_int (by first | rfl | omega), rfl⟩

set_option maxHeartbeats 2000000 in
theorem len64_010 (y : Nat) (hy : y < 18446744073709551616) (ha : y < 4294967296) (y1 : Nat) (e1 : y1 = y) (hb : 65536 ≤ y1) (y2 : Nat) (e2 : y2 = y1 / 65536) (hc : y2 < 256) (y3 : Nat) (e3 : y3 = y2) (h3 : y3 ≤ 255) (L : Nat) (hL : Lib.bitLen y3 = L) (hL8 : L ≤ 8) (w : World) :
    Calls Try.prog 57 #[.int .u64 (y : Nat)] w fun e w' => e = .returned (.int .i64 (16 + (L : Int))) ∧ w' = w := by
  have t1 : decide ((4294967296 : Int) ≤ (y : Int)) = false := by simp; omega
  have t1b : decide (4294967296 ≤ y) = false := by simp; omega
  have t2 : decide ((65536 : Int) ≤ (y1 : Int)) = true := by simp; omega
  have t2b : decide (65536 ≤ y1) = true := by simp; omega
  have t3 : decide ((256 : Int) ≤ (y2 : Int)) = false := by simp; omega
  have t3b : decide (256 ≤ y2) = false := by simp; omega
  have d2 : (y1 : Int) / 65536 = (y2 : Int) := by omega
  have d4 : (y3 : Int) % 256 = (y3 : Int) := by omega
  have d4b : y3 % 256 = y3 := by omega
  have e8 : Lib.len8 (y3 : Int) = (L : Int) := by rw [Lib.len8_of _ (by omega) (by omega), Int.toNat_natCast, hL]
  have l0 : (0 : Int) ≤ (y3 : Int) := by omega
  have l1 : (y3 : Int) ≤ 255 := by omega
  have wL : IntKind.i64.wrap (L : Int) = (L : Int) := wrZ (by omega) (by omega)
  have wS : IntKind.i64.wrap (16 + (L : Int)) = 16 + (L : Int) := wrZ (by omega) (by omega)
  subst e1
  subst e3
  clear hL e2 ha hb hc
  go_enter Try.func57, Try.ntmps57
  go_wp2
  go_ret
  exact ⟨ret_int (by first | rfl | omega), rfl⟩

set_option maxHeartbeats 2000000 in
theorem len64_011 (y : Nat) (hy : y < 18446744073709551616) (ha : y < 4294967296) (y1 : Nat) (e1 : y1 = y) (hb : 65536 ≤ y1) (y2 : Nat) (e2 : y2 = y1 / 65536) (hc : 256 ≤ y2) (y3 : Nat) (e3 : y3 = y2 / 256) (h3 : y3 ≤ 255) (L : Nat) (hL : Lib.bitLen y3 = L) (hL8 : L ≤ 8) (w : World) :
    Calls Try.prog 57 #[.int .u64 (y : Nat)] w fun e w' => e = .returned (.int .i64 (24 + (L : Int))) ∧ w' = w := by
  have t1 : decide ((4294967296 : Int) ≤ (y : Int)) = false := by simp; omega
  have t1b : decide (4294967296 ≤ y) = false := by simp; omega
  have t2 : decide ((65536 : Int) ≤ (y1 : Int)) = true := by simp; omega
  have t2b : decide (65536 ≤ y1) = true := by simp; omega
  have t3 : decide ((256 : Int) ≤ (y2 : Int)) = true := by simp; omega
  have t3b : decide (256 ≤ y2) = true := by simp; omega
  have d2 : (y1 : Int) / 65536 = (y2 : Int) := by omega
  have d3 : (y2 : Int) / 256 = (y3 : Int) := by omega
  have d4 : (y3 : Int) % 256 = (y3 : Int) := by omega
  have d4b : y3 % 256 = y3 := by omega
  have e8 : Lib.len8 (y3 : Int) = (L : Int) := by rw [Lib.len8_of _ (by omega) (by omega), Int.toNat_natCast, hL]
  have l0 : (0 : Int) ≤ (y3 : Int) := by omega
  have l1 : (y3 : Int) ≤ 255 := by omega
  have wL : IntKind.i64.wrap (L : Int) = (L : Int) := wrZ (by omega) (by omega)
  have wS : IntKind.i64.wrap (24 + (L : Int)) = 24 + (L : Int) := wrZ (by omega) (by omega)
  subst e1
  clear hL e2 e3 ha hb hc
  go_enter Try.func57, Try.ntmps57
  go_wp2
  go_ret
  exact ⟨ret_int (by first | rfl | omega), rfl⟩

set_option maxHeartbeats 2000000 in
theorem len64_100 (y : Nat) (hy : y < 18446744073709551616) (ha : 4294967296 ≤ y) (y1 : Nat) (e1 : y1 = y / 4294967296) (hb : y1 < 65536) (y2 : Nat) (e2 : y2 = y1) (hc : y2 < 256) (y3 : Nat) (e3 : y3 = y2) (h3 : y3 ≤ 255) (L : Nat) (hL : Lib.bitLen y3 = L) (hL8 : L ≤ 8) (w : World) :
    Calls Try.prog 57 #[.int .u64 (y : Nat)] w fun e w' => e = .returned (.int .i64 (32 + (L : Int))) ∧ w' = w := by
  have t1 : decide ((4294967296 : Int) ≤ (y : Int)) = true := by simp; omega
  have t1b : decide (4294967296 ≤ y) = true := by simp; omega
  have t2 : decide ((65536 : Int) ≤ (y1 : Int)) = false := by simp; omega
  have t2b : decide (65536 ≤ y1) = false := by simp; omega
  have t3 : decide ((256 : Int) ≤ (y2 : Int)) = false := by simp; omega
  have t3b : decide (256 ≤ y2) = false := by simp; omega
  have d1 : (y : Int) / 4294967296 = (y1 : Int) := by omega
  have d4 : (y3 : Int) % 256 = (y3 : Int) := by omega
  have d4b : y3 % 256 = y3 := by omega
  have e8 : Lib.len8 (y3 : Int) = (L : Int) := by rw [Lib.len8_of _ (by omega) (by omega), Int.toNat_natCast, hL]
  have l0 : (0 : Int) ≤ (y3 : Int) := by omega
  have l1 : (y3 : Int) ≤ 255 := by omega
  have wL : IntKind.i64.wrap (L : Int) = (L : Int) := wrZ (by omega) (by omega)
  have wS : IntKind.i64.wrap (32 + (L : Int)) = 32 + (L : Int) := wrZ (by omega) (by omega)
  subst e2
  subst e3
  clear hL e1 ha hb hc
  go_enter Try.func57, Try.ntmps57
  go_wp2
  go_ret
  exact ⟨ret_int (by first | rfl | omega), rfl⟩

set_option maxHeartbeats 2000000 in
theorem len64_101 (y : Nat) (hy : y < 18446744073709551616) (ha : 4294967296 ≤ y) (y1 : Nat) (e1 : y1 = y / 4294967296) (hb : y1 < 65536) (y2 : Nat) (e2 : y2 = y1) (hc : 256 ≤ y2) (y3 : Nat) (e3 : y3 = y2 / 256) (h3 : y3 ≤ 255) (L : Nat) (hL : Lib.bitLen y3 = L) (hL8 : L ≤ 8) (w : World) :
    Calls Try.prog 57 #[.int .u64 (y : Nat)] w fun e w' => e = .returned (.int .i64 (40 + (L : Int))) ∧ w' = w := by
  have t1 : decide ((4294967296 : Int) ≤ (y : Int)) = true := by simp; omega
  have t1b : decide (4294967296 ≤ y) = true := by simp; omega
  have t2 : decide ((65536 : Int) ≤ (y1 : Int)) = false := by simp; omega
  have t2b : decide (65536 ≤ y1) = false := by simp; omega
  have t3 : decide ((256 : Int) ≤ (y2 : Int)) = true := by simp; omega
  have t3b : decide (256 ≤ y2) = true := by simp; omega
  have d1 : (y : Int) / 4294967296 = (y1 : Int) := by omega
  have d3 : (y2 : Int) / 256 = (y3 : Int) := by omega
  have d4 : (y3 : Int) % 256 = (y3 : Int) := by omega
  have d4b : y3 % 256 = y3 := by omega
  have e8 : Lib.len8 (y3 : Int) = (L : Int) := by rw [Lib.len8_of _ (by omega) (by omega), Int.toNat_natCast, hL]
  have l0 : (0 : Int) ≤ (y3 : Int) := by omega
  have l1 : (y3 : Int) ≤ 255 := by omega
  have wL : IntKind.i64.wrap (L : Int) = (L : Int) := wrZ (by omega) (by omega)
  have wS : IntKind.i64.wrap (40 + (L : Int)) = 40 + (L : Int) := wrZ (by omega) (by omega)
  subst e2
  clear hL e1 e3 ha hb hc
  go_enter Try.func57, Try.ntmps57
  go_wp2
  go_ret
  exact ⟨ret_int (by first | rfl | omega), rfl⟩

set_option maxHeartbeats 2000000 in
theorem len64_110 (y : Nat) (hy : y < 18446744073709551616) (ha : 4294967296 ≤ y) (y1 : Nat) (e1 : y1 = y / 4294967296) (hb : 65536 ≤ y1) (y2 : Nat) (e2 : y2 = y1 / 65536) (hc : y2 < 256) (y3 : Nat) (e3 : y3 = y2) (h3 : y3 ≤ 255) (L : Nat) (hL : Lib.bitLen y3 = L) (hL8 : L ≤ 8) (w : World) :
    Calls Try.prog 57 #[.int .u64 (y : Nat)] w fun e w' => e = .returned (.int .i64 (48 + (L : Int))) ∧ w' = w := by
  have t1 : decide ((4294967296 : Int) ≤ (y : Int)) = true := by simp; omega
  have t1b : decide (4294967296 ≤ y) = true := by simp; omega
  have t2 : decide ((65536 : Int) ≤ (y1 : Int)) = true := by simp; omega
  have t2b : decide (65536 ≤ y1) = true := by simp; omega
  have t3 : decide ((256 : Int) ≤ (y2 : Int)) = false := by simp; omega
  have t3b : decide (256 ≤ y2) = false := by simp; omega
  have d1 : (y : Int) / 4294967296 = (y1 : Int) := by omega
  have d2 : (y1 : Int) / 65536 = (y2 : Int) := by omega
  have d4 : (y3 : Int) % 256 = (y3 : Int) := by omega
  have d4b : y3 % 256 = y3 := by omega
  have e8 : Lib.len8 (y3 : Int) = (L : Int) := by rw [Lib.len8_of _ (by omega) (by omega), Int.toNat_natCast, hL]
  have l0 : (0 : Int) ≤ (y3 : Int) := by omega
  have l1 : (y3 : Int) ≤ 255 := by omega
  have wL : IntKind.i64.wrap (L : Int) = (L : Int) := wrZ (by omega) (by omega)
  have wS : IntKind.i64.wrap (48 + (L : Int)) = 48 + (L : Int) := wrZ (by omega) (by omega)
  subst e3
  clear hL e1 e2 ha hb hc
  go_enter Try.func57, Try.ntmps57
  go_wp2
  go_ret
  exact ⟨ret_int (by first | rfl | omega), rfl⟩

set_option maxHeartbeats 2000000 in
theorem len64_111 (y : Nat) (hy : y < 18446744073709551616) (ha : 4294967296 ≤ y) (y1 : Nat) (e1 : y1 = y / 4294967296) (hb : 65536 ≤ y1) (y2 : Nat) (e2 : y2 = y1 / 65536) (hc : 256 ≤ y2) (y3 : Nat) (e3 : y3 = y2 / 256) (h3 : y3 ≤ 255) (L : Nat) (hL : Lib.bitLen y3 = L) (hL8 : L ≤ 8) (w : World) :
    Calls Try.prog 57 #[.int .u64 (y : Nat)] w fun e w' => e = .returned (.int .i64 (56 + (L : Int))) ∧ w' = w := by
  have t1 : decide ((4294967296 : Int) ≤ (y : Int)) = true := by simp; omega
  have t1b : decide (4294967296 ≤ y) = true := by simp; omega
  have t2 : decide ((65536 : Int) ≤ (y1 : Int)) = true := by simp; omega
  have t2b : decide (65536 ≤ y1) = true := by simp; omega
  have t3 : decide ((256 : Int) ≤ (y2 : Int)) = true := by simp; omega
  have t3b : decide (256 ≤ y2) = true := by simp; omega
  have d1 : (y : Int) / 4294967296 = (y1 : Int) := by omega
  have d2 : (y1 : Int) / 65536 = (y2 : Int) := by omega
  have d3 : (y2 : Int) / 256 = (y3 : Int) := by omega
  have d4 : (y3 : Int) % 256 = (y3 : Int) := by omega
  have d4b : y3 % 256 = y3 := by omega
  have e8 : Lib.len8 (y3 : Int) = (L : Int) := by rw [Lib.len8_of _ (by omega) (by omega), Int.toNat_natCast, hL]
  have l0 : (0 : Int) ≤ (y3 : Int) := by omega
  have l1 : (y3 : Int) ≤ 255 := by omega
  have wL : IntKind.i64.wrap (L : Int) = (L : Int) := wrZ (by omega) (by omega)
  have wS : IntKind.i64.wrap (56 + (L : Int)) = 56 + (L : Int) := wrZ (by omega) (by omega)
  clear hL e1 e2 e3 ha hb hc
  go_enter Try.func57, Try.ntmps57
  go_wp2
  go_ret
  exact ⟨ret_int (by first | rfl | omega), rfl⟩

theorem len64_any (y : Nat) (hy : y < 18446744073709551616) (w : World) :
    Calls Try.prog 57 #[.int .u64 (y : Nat)] w fun e w' => e = .returned (.int .i64 ((Lib.bitLen y : Nat) : Int)) ∧ w' = w := by
  by_cases ha : 4294967296 ≤ y
  · obtain ⟨y1, e1⟩ : ∃ y1, y1 = y / 4294967296 := ⟨_, rfl⟩
    have b1 := Lib.bitLen_shift32 y ha hy
    rw [← e1] at b1
    by_cases hb : 65536 ≤ y1
    · obtain ⟨y2, e2⟩ : ∃ y2, y2 = y1 / 65536 := ⟨_, rfl⟩
      have b2 := Lib.bitLen_shift16 y1 hb (by omega)
      rw [← e2] at b2
      by_cases hc : 256 ≤ y2
      · obtain ⟨y3, e3⟩ : ∃ y3, y3 = y2 / 256 := ⟨_, rfl⟩
        have b3 := Lib.bitLen_shift8 y2 hc (by omega)
        rw [← e3] at b3
        have := len64_111 y hy ha y1 e1 hb y2 e2 hc y3 e3 (by omega) _ rfl (Lib.bitLen_le y3 8 (by omega) (by omega)) w
        rw [show ((Lib.bitLen y : Nat) : Int) = 56 + ((Lib.bitLen y3 : Nat) : Int) by omega]; exact this
      · have := len64_110 y hy ha y1 e1 hb y2 e2 (by omega) y2 rfl (by omega) _ rfl (Lib.bitLen_le y2 8 (by omega) (by omega)) w
        rw [show ((Lib.bitLen y : Nat) : Int) = 48 + ((Lib.bitLen y2 : Nat) : Int) by omega]; exact this
    · by_cases hc : 256 ≤ y1
      · obtain ⟨y3, e3⟩ : ∃ y3, y3 = y1 / 256 := ⟨_, rfl⟩
        have b3 := Lib.bitLen_shift8 y1 hc (by omega)
        rw [← e3] at b3
        have := len64_101 y hy ha y1 e1 (by omega) y1 rfl hc y3 e3 (by omega) _ rfl (Lib.bitLen_le y3 8 (by omega) (by omega)) w
        rw [show ((Lib.bitLen y : Nat) : Int) = 40 + ((Lib.bitLen y3 : Nat) : Int) by omega]; exact this
      · have := len64_100 y hy ha y1 e1 (by omega) y1 rfl (by omega) y1 rfl (by omega) _ rfl (Lib.bitLen_le y1 8 (by omega) (by omega)) w
        rw [show ((Lib.bitLen y : Nat) : Int) = 32 + ((Lib.bitLen y1 : Nat) : Int) by omega]; exact this
  · by_cases hb : 65536 ≤ y
    · obtain ⟨y2, e2⟩ : ∃ y2, y2 = y / 65536 := ⟨_, rfl⟩
      have b2 := Lib.bitLen_shift16 y hb (by omega)
      rw [← e2] at b2
      by_cases hc : 256 ≤ y2
      · obtain ⟨y3, e3⟩ : ∃ y3, y3 = y2 / 256 := ⟨_, rfl⟩
        have b3 := Lib.bitLen_shift8 y2 hc (by omega)
        rw [← e3] at b3
        have := len64_011 y hy (by omega) y rfl hb y2 e2 hc y3 e3 (by omega) _ rfl (Lib.bitLen_le y3 8 (by omega) (by omega)) w
        rw [show ((Lib.bitLen y : Nat) : Int) = 24 + ((Lib.bitLen y3 : Nat) : Int) by omega]; exact this
      · have := len64_010 y hy (by omega) y rfl hb y2 e2 (by omega) y2 rfl (by omega) _ rfl (Lib.bitLen_le y2 8 (by omega) (by omega)) w
        rw [show ((Lib.bitLen y : Nat) : Int) = 16 + ((Lib.bitLen y2 : Nat) : Int) by omega]; exact this
    · by_cases hc : 256 ≤ y
      · obtain ⟨y3, e3⟩ : ∃ y3, y3 = y / 256 := ⟨_, rfl⟩
        have b3 := Lib.bitLen_shift8 y hc (by omega)
        rw [← e3] at b3
        have := len64_001 y hy (by omega) y rfl (by omega) y rfl hc y3 e3 (by omega) _ rfl (Lib.bitLen_le y3 8 (by omega) (by omega)) w
        rw [show ((Lib.bitLen y : Nat) : Int) = 8 + ((Lib.bitLen y3 : Nat) : Int) by omega]; exact this
      · have := len64_000 y hy (by omega) y rfl (by omega) y rfl (by omega) y rfl (by omega) _ rfl (Lib.bitLen_le y 8 (by omega) (by omega)) w
        rw [show ((Lib.bitLen y : Nat) : Int) = 0 + ((Lib.bitLen y : Nat) : Int) by omega]; exact this
/-- How many binary digits a number has without its sign. -/
def bdg (n : Int) : Nat := max 1 (Lib.bitLen n.natAbs)
theorem bdg_bd {n : Int} (h1 : -9223372036854775808 ≤ n) (h2 : n ≤ 9223372036854775807) : 1 ≤ bdg n ∧ bdg n ≤ 64 := by
  have := Lib.bitLen_le n.natAbs 64 (by omega) (by omega)
  unfold bdg; omega
set_option maxHeartbeats 1000000 in
theorem binaryDigits_any (n : Int) (h1 : -9223372036854775808 ≤ n) (h2 : n ≤ 9223372036854775807) (w : World) :
    Calls Try.prog 40 #[.int .i64 n] w fun e w' => e = .returned (.int .i64 ((bdg n : Nat) : Int)) ∧ w' = w := by
  have cL := fun V => len64_any n.natAbs (by omega) V
  have hB : bdg n = max 1 (Lib.bitLen n.natAbs) := rfl
  have h64 := Lib.bitLen_le n.natAbs 64 (by omega) (by omega)
  have HB : Hid (bdg n = max 1 (Lib.bitLen n.natAbs)) := hB
  clear hB
  by_cases hn : n < 0
  · have t1 : decide (n < 0) = true := by simpa using hn
    obtain ⟨u, hu⟩ : ∃ u : Int, u = n + 18446744073709551616 := ⟨_, rfl⟩
    have w1 : IntKind.u64.wrap n = u := by rw [IntKind.wrap_u64]; omega
    have w2 : IntKind.u64.wrap (-u) = ((n.natAbs : Nat) : Int) := by rw [IntKind.wrap_u64]; omega
    clear hn hu
    generalize hN : n.natAbs = N at *
    generalize hLL : Lib.bitLen N = LL at *
    have HLL : Hid (Lib.bitLen N = LL) := hLL
    clear hN hLL
    go_enter Try.func40, Try.ntmps40
    go_wp2_with (go_at_call 57; (with_reducible refine (cL _).mono ?_); rintro e w1 ⟨rfl, hw⟩; rw [hw]; clear hw w1)
    all_goals
      go_ret
      exact ⟨ret_int (by have := HB.out; first | omega | (simp at *; omega)), rfl⟩
  · have t1 : decide (n < 0) = false := by simpa using hn
    obtain ⟨N, hN⟩ : ∃ N : Nat, n = N := ⟨n.natAbs, by omega⟩
    have w1 : IntKind.u64.wrap n = (N : Int) := by rw [IntKind.wrap_u64]; omega
    have hN2 : n.natAbs = N := by omega
    rw [hN2] at cL HB h64
    clear hn hN2 hN
    generalize hLL : Lib.bitLen N = LL at *
    clear hLL
    go_enter Try.func40, Try.ntmps40
    go_wp2_with (go_at_call 57; (with_reducible refine (cL _).mono ?_); rintro e w1 ⟨rfl, hw⟩; rw [hw]; clear hw w1)
    all_goals
      go_ret
      exact ⟨ret_int (by have := HB.out; first | omega | (simp at *; omega)), rfl⟩
theorem i64_and1 (n : Int) : bits .and .i64 n 1 = n % 2 := by
  have h1 : (BitVec.ofInt 64 1).toNat = 2 ^ 1 - 1 := by decide
  have key : (BitVec.ofInt 64 n &&& BitVec.ofInt 64 1).toNat = (n % ((2 ^ 64 : Nat) : Int)).toNat % 2 ^ 1 := by
    rw [BitVec.toNat_and, BitVec.toNat_ofInt, h1, Nat.and_two_pow_sub_one_eq_mod]
  show IntKind.i64.wrap ((BitVec.ofInt 64 n &&& BitVec.ofInt 64 1).toNat : Nat) = n % 2
  rw [key, IntKind.wrap_i64]
  omega
end Go.Proofs.Ytjnlkdeiccllgaa
