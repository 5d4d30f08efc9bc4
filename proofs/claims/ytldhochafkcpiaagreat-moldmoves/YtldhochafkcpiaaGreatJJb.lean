
/- MoldJoins: two arrays of one shape under one another; both. -/

import Derived.Test.YtldhochafkcpiaaGreatMJ
import Derived.Test.YtldhochafkcpiaaGreatMZ
import Derived.Test.YtldhochafkcpiaaGreatRB
import Derived.Test.YtldhochafkcpiaaGreatE1
import Derived.Test.YtldhochafkcpiaaGreatC10
import Derived.Test.YtldhochafkcpiaaGreatG1






namespace Go.Proofs.YtldhochafkcpiaaGreat

open Go.RowKit

set_option linter.unusedVariables false

set_option maxHeartbeats 2000000 in
/-- both, where the dyad tells what is wanted. -/
theorem both_is (op : Int) (xso xo so ao yo bo : Option Addr) (xsn xsc xn xc sn sc an ac tn tc bn bc : Nat) (S A : List Int) (w : World) (ht : Rd w yo tn S) (hb : Rd w bo bn A)
    (hc : ∀ V, Below w.heap.size w V → Calls Tryz.prog 5 #[.int .i64 op, .agg #[.slice xso xsn xsc, .slice xo xn xc], .agg #[.slice so sn sc, .slice ao an ac]] V fun e w' => Ans V V.heap.size S A 0 e w') :
    Calls Tryz.prog 9 #[.int .i64 op, .agg #[.slice xso xsn xsc, .slice xo xn xc], .agg #[.slice so sn sc, .slice ao an ac], .agg #[.slice yo tn tc, .slice bo bn bc]] w fun e w' => e = .returned (.bool true) ∧ Below w.heap.size w w' := by
  have k3 := three_below w (.cells #[.slice xso xsn xsc, .slice xo xn xc] 25) (.cells #[.slice so sn sc, .slice ao an ac] 25) (.cells #[.slice yo tn tc, .slice bo bn bc] 25)
  have b2 := allocNew ((w.alloc (.cells #[.slice xso xsn xsc, .slice xo xn xc] 25)).alloc (.cells #[.slice so sn sc, .slice ao an ac] 25)) (.cells #[.slice yo tn tc, .slice bo bn bc] 25)
  simp only [World.size_alloc] at b2
  have cR := hc _ k3
  have cE := fun V o1 n1 c1 o2 n2 c2 (h1 : Rd V o1 n1 S) (h2 : Rd V o2 n2 A) (k : Below w.heap.size w V) => eq4_any o1 o2 yo bo n1 c1 n2 c2 tn tc bn bc S A S A V h1 h2 (ht.below k (Nat.le_refl _)) (hb.below k (Nat.le_refl _))
  rw [show eqA S A S A = true from eqA_refl S A] at cE
  clear hc
  go_enter Tryz.func9, Tryz.ntmps9
  go_wp2_with (first
    | (go_at_call 5; (with_reducible refine cR.mono ?_); rintro e w5 ⟨o1, n1, c1, o2, n2, c2, rfl, f1, f2, k5⟩; have K5 : Below w.heap.size w w5 := k3.trans (k5.mono k3.size); have T5 := (k5.block (w.heap.size + 1 + 1) (by simp)).trans b2; have kb := box_below w5 (.cells #[.slice o1 n1 c1, .slice o2 n2 c2] 25); have K6 := K5.trans (kb.mono K5.size); have T6 := (kb.block _ (Array.getElem?_eq_some_iff.1 T5).1).trans T5; obtain ⟨y0, y1, _, _⟩ := box2 T6)
    | (go_at_call 15; (with_reducible refine (cE _ o1 n1 c1 o2 n2 c2 (f1.rd.below kb (Nat.le_refl _)) (f2.rd.below kb (Nat.le_refl _)) K6).mono ?_); rintro e w7 ⟨rfl, k7⟩))
  go_ret
  exact ⟨rfl, K6.trans (k7.mono K6.size)⟩
end Go.Proofs.YtldhochafkcpiaaGreat
