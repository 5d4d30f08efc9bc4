
/- Contracts of the document's own Agree, Split, both and Cover. -/

import Derived.Test.YtjllmfahmlfljabAt

namespace Go.Proofs.Ytjllmfahmlfljab

open Go.RowKit Go.Deep

set_option linter.unusedVariables false

theorem agr_no {a b : List Int} {k : Nat} (h1 : k < a.length) (h2 : k < b.length) (hne : nth a k ≠ nth b k) : agrB a b = false := by
  unfold agrB
  split
  · rename_i c
    refine eqB_no (k := k) h2 ?_
    rw [nth_take h2]; exact fun e => hne e.symm
  · refine eqB_no (k := k) h1 ?_
    rw [nth_take h1]; exact hne
theorem agr_yes {a b : List Int} (h : ∀ k, k < a.length → k < b.length → nth a k = nth b k) : agrB a b = true := by
  unfold agrB
  split
  · rename_i c
    refine eqB_yes (by rw [List.length_take]; omega) fun k hk => ?_
    rw [nth_take hk]; exact (h k (by omega) hk).symm
  · refine eqB_yes (by rw [List.length_take]; omega) fun k hk => ?_
    rw [nth_take hk]; exact h k hk (by omega)

end Go.Proofs.Ytjllmfahmlfljab
