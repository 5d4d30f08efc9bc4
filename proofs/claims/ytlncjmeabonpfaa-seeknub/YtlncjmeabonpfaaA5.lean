
/- Contracts: scalars and lists made. -/

import Derived.Test.YtlncjmeabonpfaaA4
import Derived.Handy


namespace Go.Proofs.Ytlncjmeabonpfaa

open Go.RowKit

set_option linter.unusedVariables false

theorem num1 {n : Int} (h1 : -9223372036854775808 ≤ n) (h2 : n ≤ 9223372036854775807) : ∀ k, k < [n].length → -9223372036854775808 ≤ nth [n] k ∧ nth [n] k ≤ 9223372036854775807 := by
  intro k hk
  simp at hk
  subst hk; exact ⟨h1, h2⟩

theorem scalar_any (n : Int) (w : World) (h1 : -9223372036854775808 ≤ n) (h2 : n ≤ 9223372036854775807) :
    Calls Try.prog 62 #[.int .i64 n] w fun e w' => ∃ ao c, e = .returned (.agg #[.slice none 0 0, .slice ao 1 c]) ∧ Ft 2 w' w.heap.size ao 1 c [n] ∧ Below w.heap.size w w' := by
  go_enter Try.func62, Try.ntmps62
  go_wp2
  go_returns
  refine ⟨_, _, rfl, ?_, ?_⟩
  · have := ft_new 2 (w.alloc (.cells #[.slice none 0 0, .slice (some ⟨w.heap.size + 1, 0, none⟩) 1 1] 25)) [n] (by simp) (num1 h1 h2)
    rw [World.size_alloc] at this
    exact this.mono (by omega)
  · exact (box_below w _).alloc (by simp) _

end Go.Proofs.Ytlncjmeabonpfaa
