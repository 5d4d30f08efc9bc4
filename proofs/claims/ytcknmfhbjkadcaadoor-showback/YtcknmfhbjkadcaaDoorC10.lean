
/- A joiner: what it holds; contracts: Begin, places. -/

import Derived.Test.YtcknmfhbjkadcaaDoorC1

import Derived.Test.YtcknmfhbjkadcaaDoorA7

import Derived.Test.YtcknmfhbjkadcaaDoorMath2

import Derived.Test.YtcknmfhbjkadcaaDoorWalks

import Derived.Lib.AppendZerosOnto

import Derived.Lib.Overlaps

import Derived.Deep.RegionLaw

import Derived.Laws.Bits64b

import Derived.Laws.CopyOwn

import Derived.IntWalk

import Derived.Deep.OwnRows

import Derived.Laws.AppendOwnNone

namespace Go.Proofs.YtcknmfhbjkadcaaDoor

open Go.RowKit

set_option linter.unusedVariables false

/-- A row of another kind is changed: a list of one's own stays. -/
theorem Ft.kind {e : TypeId} {W W' : World} {B b : Nat} {o : Option Addr} {n c : Nat} {zs : List Int} (h : Ft e W B o n c zs) (hg : W.grownBy W' (some b)) {cur : Array Value} {t : TypeId} (hb : W.heap[b]? = some (.cells cur t (0, 0))) (hne : e ≠ t) : Ft e W' B o n c zs :=
  h.keep1 hg (fun b' off e' => by
    intro e2
    rcases h.own.2 with ⟨e3, _⟩ | ⟨g, c', cur', e3, _, hg', _⟩
    · cases e3; cases e'
    · cases e3; cases e'; cases e2
      rw [hg'] at hb
      cases hb
      exact hne rfl)
end Go.Proofs.YtcknmfhbjkadcaaDoor
