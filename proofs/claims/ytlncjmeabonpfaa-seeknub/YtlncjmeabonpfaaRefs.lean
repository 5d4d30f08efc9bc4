
/- Contracts of the document's own May, Count, Size, Place and Rank. -/

import Derived.Test.YtlncjmeabonpfaaSize
import Derived.Test.YtlncjmeabonpfaaCopy


namespace Go.Proofs.Ytlncjmeabonpfaa

open Go.RowKit

set_option linter.unusedVariables false

theorem ediv_zero_iff {p : Int} (hp : 1 ≤ p) : 4096 / p = 0 ↔ 4096 < p := by
  constructor
  · intro h
    by_cases c : 4096 < p
    · exact c
    · have : 1 ≤ 4096 / p := (Int.le_ediv_iff_mul_le (by omega)).2 (by omega)
      omega
  · intro h; exact Int.ediv_eq_zero_of_lt (by omega) h

end Go.Proofs.Ytlncjmeabonpfaa
