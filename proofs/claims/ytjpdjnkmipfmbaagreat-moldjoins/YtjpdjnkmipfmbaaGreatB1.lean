
/- What every statement of layer 3 asks ahead answers true. -/

import Derived.Test.YtjpdjnkmipfmbaaGreatA9

namespace Go.Proofs.YtjpdjnkmipfmbaaGreat

open Go.RowKit

set_option linter.unusedVariables false

/-- An array in a box. -/
structure Bx (W : World) (g : Nat) (so : Option Addr) (sn sc : Nat) (ao : Option Addr) (an ac : Nat) (sh at' : List Int) : Prop where
  c0 : W.cell? ⟨g, 0, none⟩ = some (.slice so sn sc)
  c1 : W.cell? ⟨g, 1, none⟩ = some (.slice ao an ac)
  s : Rd W so sn sh
  a : Rd W ao an at'
theorem Bx.below {W W' : World} {g : Nat} {so : Option Addr} {sn sc : Nat} {ao : Option Addr} {an ac : Nat} {sh at' : List Int} (h : Bx W g so sn sc ao an ac sh at') (k : Below W.heap.size W W') : Bx W' g so sn sc ao an ac sh at' := by
  have l0 := World.block_lt_of_cell? W _ h.c0
  exact ⟨(k.cell (p := ⟨g, 0, none⟩) l0).trans h.c0, (k.cell (p := ⟨g, 1, none⟩) l0).trans h.c1, h.s.below k (Nat.le_refl _), h.a.below k (Nat.le_refl _)⟩
theorem bx_new {W : World} {so : Option Addr} {sn sc : Nat} {ao : Option Addr} {an ac : Nat} {sh at' : List Int} (h : Rd W so sn sh) (g : Rd W ao an at') : Bx (W.alloc (.cells #[.slice so sn sc, .slice ao an ac] 25)) W.heap.size so sn sc ao an ac sh at' := by
  have b0 := allocNew W (.cells #[.slice so sn sc, .slice ao an ac] 25)
  have k := box_below W (.cells #[.slice so sn sc, .slice ao an ac] 25)
  exact ⟨(cell_of_row _ _ 0 _ _ (0, 0) b0).trans rfl, (cell_of_row _ _ 1 _ _ (0, 0) b0).trans rfl, h.below k (Nat.le_refl _), g.below k (Nat.le_refl _)⟩
theorem btw {B : Nat} {a b c : World} (h : Below B a b) (k : Below b.heap.size b c) (hB : B ≤ b.heap.size) : Below B a c := h.trans (k.mono hB)

theorem c_item (W : World) (so bo : Option Addr) (sc bc : Nat) (h : Rd W so 1 [3]) (g : Rd W bo 3 [5, 6, 7]) (hs : Sl so 1 sc) (gs : Sl bo 3 bc) : Calls Tryz.prog 96 #[.agg #[.slice so 1 sc, .slice bo 3 bc], .int .i64 (-1)] W fun e w' => ∃ o1 c1 o2 c2, e = .returned (.tuple #[.agg #[.slice o1 0 c1, .slice o2 1 c2], .int .i64 0]) ∧ Rd w' o1 0 [] ∧ Rd w' o2 1 [7] ∧ Below W.heap.size W w' := by
  refine (item_any so bo 1 sc 3 bc [3] [5, 6, 7] (-1) W h hs g gs).mono fun e w' ⟨o1, n1, c1, o2, n2, c2, x1, x2, x3, x4, x5⟩ => ?_
  have e0 : itmE [3] [5, 6, 7] (-1) = 0 := by decide
  have e1 : itmS [3] [5, 6, 7] (-1) = [] := by decide
  have e2 : itmA [3] [5, 6, 7] (-1) = [7] := by decide
  rw [e0] at x1
  rw [e1] at x2
  rw [e2] at x3
  have l1 := x2.rd.len
  have l2 := x3.rd.len
  simp at l1 l2
  subst l1 l2
  exact ⟨o1, c1, o2, c2, x1, x2.rd, x3.rd, x5⟩

end Go.Proofs.YtjpdjnkmipfmbaaGreat
