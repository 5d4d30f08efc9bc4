
/- Contracts of package shape's Agree, and of the document's own Agree and Split. -/

import Derived.Test.YtcknmfhbjkadcaaGreatDoorSplit2

import Derived.Test.YtcknmfhbjkadcaaGreatDoorSize

import Derived.Test.YtcknmfhbjkadcaaGreatDoorCopy

import Derived.Deep.RegionLaw

namespace Go.Proofs.YtcknmfhbjkadcaaGreatDoor

open Go.RowKit

set_option linter.unusedVariables false

theorem below_drewN {B : Nat} {a w : World} (h : Below B a w) : ∀ n, Below B a (w.drewN n)
  | 0 => h
  | n + 1 => ⟨(below_drewN h n).os, (below_drewN h n).tape, (below_drewN h n).output, (below_drewN h n).size, (below_drewN h n).block⟩

theorem ret_lone {ao bo : Option Addr} {n m c d : Nat} {x y : Int} (h1 : ao = bo) (h2 : n = m) (h3 : c = d) (h : x = y) : Ending.returned (.tuple #[.slice ao n c, .int .i64 x]) = .returned (.tuple #[.slice bo m d, .int .i64 y]) := by rw [h1, h2, h3, h]

end Go.Proofs.YtcknmfhbjkadcaaGreatDoor
