
/- Contract: an array of one number everywhere. -/

import Derived.Test.YtjnlkdeiccllgaaA10

namespace Go.Proofs.Ytjnlkdeiccllgaa

open Go.RowKit

set_option linter.unusedVariables false

/-- The answers of Fill: the shape, the atoms. -/
def filS (sh : List Int) : List Int := if mayF sh = 0 then sh else []
def filA (sh : List Int) (n : Int) : List Int := if mayF sh = 0 then List.replicate (pr sh).toNat n else []

end Go.Proofs.Ytjnlkdeiccllgaa
