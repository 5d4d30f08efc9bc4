
/- It is proved that the law ArrAll answers true for every script of calls, and leaves it as it was; no condition. -/

import Derived.Test.YtkplfnajhinkiaaP15
import Derived.Test.YtkplfnajhinkiaaP16


namespace Go.Proofs.Ytkplfnajhinkiaa.arrAll

open Go.ChangeShapes Go.WideShapes Go.ChangeAt Go.RowKit

set_option linter.unusedVariables false

theorem over : Rows.arrAllRow.holds Try.pinned (OpenSpec.ofChange Rows.arrAllSpec) :=
  OpenClaim.holds_of_wide 5 Try.f5 rfl rfl rfl rfl rfl rfl rfl ⟨rfl, rfl, rfl, rfl, rfl⟩ rfl rfl rfl rfl rfl (by kernel_rfl) Try.func5 (by kernel_rfl)
    (of_decide_eq_true (by kernel_rfl)) (by unfold Func.isWrapper; first | (rw [if_pos (by decide +kernel)]; kernel_rfl) | (rw [if_neg (by decide +kernel)]; exact ⟨rfl, rfl⟩))
    (fun os started H enc _ => liftedA plays_any os started H enc)
end Go.Proofs.Ytkplfnajhinkiaa.arrAll

namespace Go.Proofs.Ytkplfnajhinkiaa

theorem arrAll_holds : Rows.ArrAllSaid := arrAll.over
#print axioms arrAll_holds

end Go.Proofs.Ytkplfnajhinkiaa
