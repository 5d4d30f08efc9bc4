
/- Contract of package shape's Cover. -/

import Derived.Test.YthncgocjegalhaaAgree

namespace Go.Proofs.Ythncgocjegalhaa

open Go.RowKit

set_option linter.unusedVariables false

/-- The k-th of some lists. -/
def row (zss : List (List Int)) (k : Nat) : List Int := zss.getD k []

end Go.Proofs.Ythncgocjegalhaa
