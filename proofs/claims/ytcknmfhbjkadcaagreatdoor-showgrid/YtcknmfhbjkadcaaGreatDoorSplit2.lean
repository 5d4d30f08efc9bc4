
/- Contract of package shape's Split, of lists that hold nothing too. -/

import Derived.Test.YtcknmfhbjkadcaaGreatDoorSplit

namespace Go.Proofs.YtcknmfhbjkadcaaGreatDoor

open Go.RowKit

set_option linter.unusedVariables false

/-- What every slice keeps: nil has no room; as long as its room at most. -/
structure Sl (ao : Option Addr) (n cap : Nat) : Prop where
  nil : ao = none → n = 0 ∧ cap = 0
  le : n ≤ cap
  max : cap ≤ 9223372036854775807

theorem Fr.sl {w : World} {B : Nat} {ao : Option Addr} {n cap : Nat} {zs : List Int} (h : Fr w B ao n cap zs) : Sl ao n cap := by
  rcases h.own.2 with ⟨e, h0⟩ | ⟨g, c, cur, e, hb, hg, hn, hm, _⟩
  · cases e; exact ⟨fun _ => ⟨rfl, rfl⟩, by omega, by omega⟩
  · cases e; exact ⟨fun e => (by cases e), hn, by unfold maxLen at hm; omega⟩

end Go.Proofs.YtcknmfhbjkadcaaGreatDoor
