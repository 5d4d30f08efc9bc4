
/- Contract: slices.Insert of one number at the head of a list of one's own. -/

import Derived.Test.YtldhochafkcpiaaGreatC1
import Derived.Lib.AppendZerosOnto
import Derived.Lib.Overlaps
import Derived.Deep.RegionLaw




namespace Go.Proofs.YtldhochafkcpiaaGreat

open Go.RowKit

set_option linter.unusedVariables false

theorem arr_list (x : Array Value) : ∃ l : List Value, x = l.toArray := ⟨x.toList, by simp⟩
end Go.Proofs.YtldhochafkcpiaaGreat
