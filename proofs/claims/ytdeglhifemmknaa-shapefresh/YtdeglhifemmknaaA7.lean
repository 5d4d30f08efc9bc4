
/- Contract: an item that there is. -/

import Derived.Test.YtdeglhifemmknaaA4

import Derived.Deep.RegionHeld3

import Derived.Handy

namespace Go.Proofs.Ytdeglhifemmknaa

open Go.RowKit

set_option linter.unusedVariables false

theorem Rd.lt {w : World} {ao : Option Addr} {n : Nat} {zs : List Int} (h : Rd w ao n zs) (h0 : 0 < n) : ∀ b off, ao = some ⟨b, off, none⟩ → b < w.heap.size := by
  rintro b off rfl
  obtain ⟨b', off', e, hb, _⟩ := h.cells h0
  cases e; exact hb

end Go.Proofs.Ytdeglhifemmknaa
