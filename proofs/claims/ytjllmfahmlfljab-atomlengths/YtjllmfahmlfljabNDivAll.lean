
/- The contract of math/bits.Div64 at the divisors 1 to 33, all in one. -/

import Derived.Test.YtjllmfahmlfljabNDiv1
import Derived.Test.YtjllmfahmlfljabNDiv2
import Derived.Test.YtjllmfahmlfljabNDiv3
import Derived.Test.YtjllmfahmlfljabNDiv4




namespace Go.Proofs.Ytjllmfahmlfljab.Nm

open Go.RowKit

theorem bitsDiv_any (hi lo y : Nat) (h1 : 1 ≤ y) (h2 : y ≤ 33) (hh : hi < y) (hl : lo < 18446744073709551616) (w : World) :
    Calls Try.prog 47 #[.int .u64 (hi : Nat), .int .u64 (lo : Nat), .int .u64 (y : Nat)] w fun e w' => (∃ r : Int, e = .returned (.tuple #[.int .u64 (((hi * 18446744073709551616 + lo) / y : Nat) : Int), .int .u64 r])) ∧ ∃ n, w' = w.drewN n := by
  rcases Nat.eq_zero_or_pos hi with h0 | h0
  · subst h0
    rw [Nat.zero_mul, Nat.zero_add]
    exact bitsDiv_plain lo y h1 h2 hl w
  · rcases split33 h2 with rfl | rfl | rfl | rfl | rfl | rfl | rfl | rfl | rfl | rfl | rfl | rfl | rfl | rfl | rfl | rfl | rfl | rfl | rfl | rfl | rfl | rfl | rfl | rfl | rfl | rfl | rfl | rfl | rfl | rfl | rfl | rfl | rfl | rfl
    · omega
    · omega
    · exact bitsDiv_2 hi lo h0 hh hl w
    · exact bitsDiv_3 hi lo h0 hh hl w
    · exact bitsDiv_4 hi lo h0 hh hl w
    · exact bitsDiv_5 hi lo h0 hh hl w
    · exact bitsDiv_6 hi lo h0 hh hl w
    · exact bitsDiv_7 hi lo h0 hh hl w
    · exact bitsDiv_8 hi lo h0 hh hl w
    · exact bitsDiv_9 hi lo h0 hh hl w
    · exact bitsDiv_10 hi lo h0 hh hl w
    · exact bitsDiv_11 hi lo h0 hh hl w
    · exact bitsDiv_12 hi lo h0 hh hl w
    · exact bitsDiv_13 hi lo h0 hh hl w
    · exact bitsDiv_14 hi lo h0 hh hl w
    · exact bitsDiv_15 hi lo h0 hh hl w
    · exact bitsDiv_16 hi lo h0 hh hl w
    · exact bitsDiv_17 hi lo h0 hh hl w
    · exact bitsDiv_18 hi lo h0 hh hl w
    · exact bitsDiv_19 hi lo h0 hh hl w
    · exact bitsDiv_20 hi lo h0 hh hl w
    · exact bitsDiv_21 hi lo h0 hh hl w
    · exact bitsDiv_22 hi lo h0 hh hl w
    · exact bitsDiv_23 hi lo h0 hh hl w
    · exact bitsDiv_24 hi lo h0 hh hl w
    · exact bitsDiv_25 hi lo h0 hh hl w
    · exact bitsDiv_26 hi lo h0 hh hl w
    · exact bitsDiv_27 hi lo h0 hh hl w
    · exact bitsDiv_28 hi lo h0 hh hl w
    · exact bitsDiv_29 hi lo h0 hh hl w
    · exact bitsDiv_30 hi lo h0 hh hl w
    · exact bitsDiv_31 hi lo h0 hh hl w
    · exact bitsDiv_32 hi lo h0 hh hl w
    · exact bitsDiv_33 hi lo h0 hh hl w
end Go.Proofs.Ytjllmfahmlfljab.Nm
