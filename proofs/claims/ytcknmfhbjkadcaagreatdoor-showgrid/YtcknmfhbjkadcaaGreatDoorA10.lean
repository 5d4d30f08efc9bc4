
/- Contract: a list of one number over and over, by package slices. -/

import Derived.Test.YtcknmfhbjkadcaaGreatDoorA7

import Derived.Test.YtcknmfhbjkadcaaGreatDoorMath2

import Derived.Laws.Bits64b

import Derived.Laws.CopyOwn

import Derived.IntWalk

import Derived.Deep.OwnRows

namespace Go.Proofs.YtcknmfhbjkadcaaGreatDoor

open Go.RowKit

set_option linter.unusedVariables false

/-! ### math/bits.Mul64: the product of two words, by its halves -/

theorem ones (v : Int) (q : Nat) : ∀ u ∈ List.replicate q (Value.int .i64 v), u.oneCell' = true := by
  intro u hu
  rw [(List.mem_replicate.1 hu).2]; rfl
end Go.Proofs.YtcknmfhbjkadcaaGreatDoor
