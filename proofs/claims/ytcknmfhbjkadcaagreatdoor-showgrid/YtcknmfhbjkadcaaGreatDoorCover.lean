
/- Contract of package shape's Cover. -/

import Derived.Test.YtcknmfhbjkadcaaGreatDoorCommon

namespace Go.Proofs.YtcknmfhbjkadcaaGreatDoor

open Go.RowKit

set_option linter.unusedVariables false

/-- The k-th of some lists. -/
def row (zss : List (List Int)) (k : Nat) : List Int := zss.getD k []

/-- The common shape of the first k (of none: the first one). -/
def cst (zss : List (List Int)) : Nat → List Int
  | 0 => row zss 0
  | k + 1 => com (cst zss k) (row zss k)
def errAt (zss : List (List Int)) (k : Nat) : Int := if mayF (row zss k) ≠ 0 then mayF (row zss k) else mayF (cst zss (k + 1))
/-- The first error of the first k. -/
def cE (zss : List (List Int)) : Nat → Int
  | 0 => 0
  | k + 1 => if cE zss k ≠ 0 then cE zss k else errAt zss k
end Go.Proofs.YtcknmfhbjkadcaaGreatDoor
