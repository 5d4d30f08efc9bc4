
/- Contracts: lists of numbers held against one another, by package slices. -/

import Derived.Test.YtcknmfhbjkadcaaDoorSplit2

import Derived.Test.YtcknmfhbjkadcaaDoorCmp

import Derived.Test.YtcknmfhbjkadcaaDoorSize

namespace Go.Proofs.YtcknmfhbjkadcaaDoor

open Go.RowKit

set_option linter.unusedVariables false

end Go.Proofs.YtcknmfhbjkadcaaDoor
