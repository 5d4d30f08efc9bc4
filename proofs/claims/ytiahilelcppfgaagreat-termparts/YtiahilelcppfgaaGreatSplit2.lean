
/- Contract of package shape's Split, of lists that hold nothing too. -/

import Derived.Test.YtiahilelcppfgaaGreatSplit

namespace Go.Proofs.YtiahilelcppfgaaGreat

open Go.RowKit

set_option linter.unusedVariables false

/-- What every slice keeps: nil has no room; as long as its room at most. -/
structure Sl (ao : Option Addr) (n cap : Nat) : Prop where
  nil : ao = none → n = 0 ∧ cap = 0
  le : n ≤ cap
  max : cap ≤ 9223372036854775807

end Go.Proofs.YtiahilelcppfgaaGreat
