
/- Contract: an item that there is. -/

import Derived.Test.YtcknmfhbjkadcaaGreatDoorA5

import Derived.Deep.RegionHeld3

namespace Go.Proofs.YtcknmfhbjkadcaaGreatDoor

open Go.RowKit

set_option linter.unusedVariables false

theorem Rd.part {w : World} {b off n lo hi z : Nat} {zs : List Int} (h : Rd w (some ⟨b, off, none⟩) n zs) (h1 : lo + z = hi) (h2 : hi ≤ n) : Rd w (some ⟨b, off + lo, none⟩) (hi - lo) ((zs.drop lo).take z) := by
  have := (h.dropAt lo (by omega)).take z (by omega)
  rwa [show hi - lo = z by omega]
theorem Rd.lt {w : World} {ao : Option Addr} {n : Nat} {zs : List Int} (h : Rd w ao n zs) (h0 : 0 < n) : ∀ b off, ao = some ⟨b, off, none⟩ → b < w.heap.size := by
  rintro b off rfl
  obtain ⟨b', off', e, hb, _⟩ := h.cells h0
  cases e; exact hb

end Go.Proofs.YtcknmfhbjkadcaaGreatDoor
