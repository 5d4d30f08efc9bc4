
/- Contracts of package shape's At, and of the document's own At. -/

import Derived.Test.YtcknmfhbjkadcaaDoorIndices

namespace Go.Proofs.YtcknmfhbjkadcaaDoor

open Go.RowKit Go.Deep

set_option linter.unusedVariables false

theorem pr_le {zs : List Int} (h : mayF zs = 0) : 0 ≤ pr zs ∧ pr zs ≤ 4096 := by
  have := pr_small h zs.length (Nat.le_refl _); rwa [List.take_length] at this

end Go.Proofs.YtcknmfhbjkadcaaDoor
