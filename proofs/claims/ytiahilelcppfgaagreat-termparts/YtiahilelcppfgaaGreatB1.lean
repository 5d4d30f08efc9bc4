
/- What every statement of layer 3 asks ahead answers true. -/

import Derived.Test.YtiahilelcppfgaaGreatA7

import Derived.Test.YtiahilelcppfgaaGreatBase

namespace Go.Proofs.YtiahilelcppfgaaGreat

open Go.RowKit

set_option linter.unusedVariables false

theorem btw {B : Nat} {a b c : World} (h : Below B a b) (k : Below b.heap.size b c) (hB : B ≤ b.heap.size) : Below B a c := h.trans (k.mono hB)

end Go.Proofs.YtiahilelcppfgaaGreat
