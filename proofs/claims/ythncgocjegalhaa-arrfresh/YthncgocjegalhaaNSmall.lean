
/- Contracts of package num's small functions: truth, sign, odd, half, checked, size, unsigned, isTruth, nor, nand, quotient, residue, factorial. -/

import Derived.Test.YthncgocjegalhaaProg

import Derived.Test.YthncgocjegalhaaNMath

import Derived.WalkKit

import Derived.WalkLawsBesides

namespace Go.Proofs.Ythncgocjegalhaa.Nm

open Go.RowKit

set_option linter.unusedVariables false

theorem ret_int {k : IntKind} {a b : Int} (h : a = b) : Ending.returned (.int k a) = .returned (.int k b) := by rw [h]
theorem ret_bool {a b : Bool} (h : a = b) : Ending.returned (.bool a) = .returned (.bool b) := by rw [h]
theorem ret_two {k l : IntKind} {a b c d : Int} (h : a = b) (g : c = d) : Ending.returned (.tuple #[.int k a, .int l c]) = .returned (.tuple #[.int k b, .int l d]) := by rw [h, g]

theorem size_any (n : Int) (hn : inr n = true) (w : World) :
    Calls Try.prog 62 #[.int .i64 n] w fun e w' => e = .returned (.int .u64 (n.natAbs : Nat)) ∧ w' = w := by
  rw [inr_iff] at hn
  by_cases h : n < 0
  all_goals
    go_enter Try.func62, Try.ntmps62
    go_wp2
    go_ret
    exact ⟨ret_int (by first | omega | (simp only [IntKind.wrap_u64]; omega)), rfl⟩

end Go.Proofs.Ythncgocjegalhaa.Nm
