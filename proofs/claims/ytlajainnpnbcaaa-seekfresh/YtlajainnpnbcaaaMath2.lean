
/- Indices of a place, of plain lists. -/

import Derived.Test.YtlajainnpnbcaaaMath

namespace Go.Proofs.Ytlajainnpnbcaaa

set_option linter.unusedVariables false

theorem pr_foldl (l : List Int) : ∀ a : Int, l.foldl (fun p z => p * z) a = a * pr l := by
  induction l with
  | nil => intro a; simp [pr]
  | cons z l ih => intro a; simp only [pr, List.foldl_cons]; rw [ih, ih (1 * z), Int.one_mul, Int.mul_assoc]
theorem pr_app (a b : List Int) : pr (a ++ b) = pr a * pr b := by
  show (a ++ b).foldl (fun p z => p * z) 1 = _
  rw [List.foldl_append, pr_foldl]; rfl
end Go.Proofs.Ytlajainnpnbcaaa
