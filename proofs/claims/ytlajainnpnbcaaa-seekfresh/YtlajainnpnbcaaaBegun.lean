
/- What every statement asks ahead answers true. -/

import Derived.Test.YtlajainnpnbcaaaAgree

import Derived.Test.YtlajainnpnbcaaaMath2

import Derived.RangeFuncBound

import Derived.Deep.OwnRows

import Derived.RangeFuncNested

import Derived.RangeFuncCalls

import Derived.RangeFuncLeaves

import Derived.Shelf.Abstract

import Derived.Shelf.RegionOpen

import Derived.WalkKit

import Derived.OwnWalkIn

import Derived.TacticsInMore

import Derived.LoopNIn

import Derived.LoopIn

namespace Go.Proofs.Ytlajainnpnbcaaa

open Go.RowKit

set_option linter.unusedVariables false

/-- A list with ones put ahead up to N numbers: the i-th of them. -/
def ext (a : List Int) (N i : Nat) : Int := if N - a.length ≤ i then nth a (i - (N - a.length)) else 1
end Go.Proofs.Ytlajainnpnbcaaa

namespace Go.Proofs.Ytlajainnpnbcaaa

open Go.RowKit

set_option linter.unusedVariables false

/-- The k-th of some lists. -/
def row (zss : List (List Int)) (k : Nat) : List Int := zss.getD k []

end Go.Proofs.Ytlajainnpnbcaaa

namespace Go.Proofs.Ytlajainnpnbcaaa

open Go.RowKit

set_option linter.unusedVariables false

theorem bt {B : Nat} {a b c : World} (h : Below B a b) (k : Below b.heap.size b c) (hB : B ≤ b.heap.size) : Below B a c := h.trans (k.mono hB)

end Go.Proofs.Ytlajainnpnbcaaa
