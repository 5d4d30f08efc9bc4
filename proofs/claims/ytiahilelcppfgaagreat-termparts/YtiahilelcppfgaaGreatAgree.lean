
/- Contracts of package shape's Agree, and of the document's own Agree and Split. -/

import Derived.Test.YtiahilelcppfgaaGreatSplit2

import Derived.Test.YtiahilelcppfgaaGreatProg

import Derived.Test.YtiahilelcppfgaaGreatBase

import Derived.Test.YtiahilelcppfgaaGreatCopy

import Derived.Deep.RegionLaw

namespace Go.Proofs.YtiahilelcppfgaaGreat

open Go.RowKit

set_option linter.unusedVariables false

theorem below_drewN {B : Nat} {a w : World} (h : Below B a w) : ∀ n, Below B a (w.drewN n)
  | 0 => h
  | n + 1 => ⟨(below_drewN h n).os, (below_drewN h n).tape, (below_drewN h n).output, (below_drewN h n).size, (below_drewN h n).block⟩

end Go.Proofs.YtiahilelcppfgaaGreat
