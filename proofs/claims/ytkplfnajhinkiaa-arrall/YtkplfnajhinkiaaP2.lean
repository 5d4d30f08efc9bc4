
/- The cells of a call of the law of layer 3. -/

import Derived.Test.YtkplfnajhinkiaaP1

namespace Go.Proofs.Ytkplfnajhinkiaa

open Go.RowKit

set_option linter.unusedVariables false

theorem box8 {W : World} {g : Nat} {x0 x1 x2 x3 x4 x5 x6 x7 : Value} {t : TypeId} (h : W.heap[g]? = some (.cells #[x0, x1, x2, x3, x4, x5, x6, x7] t (0, 0))) :
    W.cell? ⟨g, 0, none⟩ = some x0 ∧ W.cell? ⟨g, 1, none⟩ = some x1 ∧ W.cell? ⟨g, 2, none⟩ = some x2 ∧ W.cell? ⟨g, 3, none⟩ = some x3 ∧ W.cell? ⟨g, 4, none⟩ = some x4 ∧ W.cell? ⟨g, 5, none⟩ = some x5 ∧ W.cell? ⟨g, 6, none⟩ = some x6 ∧ W.cell? ⟨g, 7, none⟩ = some x7 :=
  ⟨(cell_of_row W g 0 _ t (0, 0) h).trans rfl, (cell_of_row W g 1 _ t (0, 0) h).trans rfl, (cell_of_row W g 2 _ t (0, 0) h).trans rfl, (cell_of_row W g 3 _ t (0, 0) h).trans rfl, (cell_of_row W g 4 _ t (0, 0) h).trans rfl, (cell_of_row W g 5 _ t (0, 0) h).trans rfl, (cell_of_row W g 6 _ t (0, 0) h).trans rfl, (cell_of_row W g 7 _ t (0, 0) h).trans rfl⟩

/-- All cells that a play reads of boxes, and the rest. -/
theorem Pl.all {wa wb W : World} {B hb gb p pa pb : Nat} {K N I : Int} {so : Option Addr} {sn sc : Nat} {ao : Option Addr} {an ac : Nat} {uo : Option Addr} {tn tc : Nat} {bo : Option Addr} {bn bc : Nat} {lo : Option Addr} {ln lc : Nat} {s a t b l : List Int} {go0 go1 ho0 ho1 : Option Addr} {xo : Option Addr} {xc : Nat} {yo : Option Addr} {yc : Nat} {zo : Option Addr} {zc : Nat} {vo : Option Addr} {vc : Nat} {r0 r1 q0 q1 : Option Addr} (h : Pl wa wb W B hb gb p pa pb K N I so sn sc ao an ac uo tn tc bo bn bc lo ln lc s a t b l go0 go1 ho0 ho1 xo xc yo yc zo zc vo vc r0 r1 q0 q1) :
    W.cell? ⟨p, 0, none⟩ = some (.int .i64 K) ∧ W.cell? ⟨p, 1, none⟩ = some (.slice so sn sc) ∧ W.cell? ⟨p, 2, none⟩ = some (.slice ao an ac) ∧ W.cell? ⟨p, 3, none⟩ = some (.slice uo tn tc) ∧ W.cell? ⟨p, 4, none⟩ = some (.slice bo bn bc) ∧ W.cell? ⟨p, 5, none⟩ = some (.int .i64 N) ∧ W.cell? ⟨p, 6, none⟩ = some (.int .i64 I) ∧ W.cell? ⟨p, 7, none⟩ = some (.slice lo ln lc) ∧ W.cell? ⟨pa, 0, none⟩ = some (.slice xo sn xc) ∧ W.cell? ⟨pa, 1, none⟩ = some (.slice yo an yc) ∧ W.cell? ⟨pb, 0, none⟩ = some (.slice zo tn zc) ∧ W.cell? ⟨pb, 1, none⟩ = some (.slice vo bn vc) ∧ Pl wa wb W B hb gb p pa pb K N I so sn sc ao an ac uo tn tc bo bn bc lo ln lc s a t b l go0 go1 ho0 ho1 xo xc yo yc zo zc vo vc r0 r1 q0 q1 := by
  obtain ⟨c0, c1, c2, c3, c4, c5, c6, c7⟩ := box8 h.ar.op
  obtain ⟨d0, d1, _, _⟩ := box2 h.ab
  obtain ⟨e0, e1, _, _⟩ := box2 h.bb
  exact ⟨c0, c1, c2, c3, c4, c5, c6, c7, d0, d1, e0, e1, h⟩
end Go.Proofs.Ytkplfnajhinkiaa
