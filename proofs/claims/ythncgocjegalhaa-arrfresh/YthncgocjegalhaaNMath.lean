
/- Plain arithmetic for package num: what its rows tell, with no Go in sight: numbers of 64 bits, quotients rounded down, powers, factorials, ways to choose. -/

import Derived.WalkKit

namespace Go.Proofs.Ythncgocjegalhaa.Nm

open Go.RowKit

set_option linter.unusedVariables false

/-- Is a number one of 64 bits with a sign? -/
def inr (n : Int) : Bool := decide (-9223372036854775808 ≤ n ∧ n ≤ 9223372036854775807)
theorem inr_iff {n : Int} : inr n = true ↔ (-9223372036854775808 ≤ n ∧ n ≤ 9223372036854775807) := by unfold inr; simp
/-! ### products -/

/-! ### quotients rounded down, and what is left -/

end Go.Proofs.Ythncgocjegalhaa.Nm
