
/- What every statement of layer 3 asks ahead answers true. -/

import Derived.Test.YtjnlkdeiccllgaaA9

namespace Go.Proofs.Ytjnlkdeiccllgaa

open Go.RowKit

set_option linter.unusedVariables false

/-- An array in a box. -/
structure Bx (W : World) (g : Nat) (so : Option Addr) (sn sc : Nat) (ao : Option Addr) (an ac : Nat) (sh at' : List Int) : Prop where
  c0 : W.cell? ⟨g, 0, none⟩ = some (.slice so sn sc)
  c1 : W.cell? ⟨g, 1, none⟩ = some (.slice ao an ac)
  s : Rd W so sn sh
  a : Rd W ao an at'
theorem Bx.below {W W' : World} {g : Nat} {so : Option Addr} {sn sc : Nat} {ao : Option Addr} {an ac : Nat} {sh at' : List Int} (h : Bx W g so sn sc ao an ac sh at') (k : Below W.heap.size W W') : Bx W' g so sn sc ao an ac sh at' := by
  have l0 := World.block_lt_of_cell? W _ h.c0
  exact ⟨(k.cell (p := ⟨g, 0, none⟩) l0).trans h.c0, (k.cell (p := ⟨g, 1, none⟩) l0).trans h.c1, h.s.below k (Nat.le_refl _), h.a.below k (Nat.le_refl _)⟩
theorem bx_new {W : World} {so : Option Addr} {sn sc : Nat} {ao : Option Addr} {an ac : Nat} {sh at' : List Int} (h : Rd W so sn sh) (g : Rd W ao an at') : Bx (W.alloc (.cells #[.slice so sn sc, .slice ao an ac] 26)) W.heap.size so sn sc ao an ac sh at' := by
  have b0 := allocNew W (.cells #[.slice so sn sc, .slice ao an ac] 26)
  have k := box_below W (.cells #[.slice so sn sc, .slice ao an ac] 26)
  exact ⟨(cell_of_row _ _ 0 _ _ (0, 0) b0).trans rfl, (cell_of_row _ _ 1 _ _ (0, 0) b0).trans rfl, h.below k (Nat.le_refl _), g.below k (Nat.le_refl _)⟩
theorem btw {B : Nat} {a b c : World} (h : Below B a b) (k : Below b.heap.size b c) (hB : B ≤ b.heap.size) : Below B a c := h.trans (k.mono hB)

end Go.Proofs.Ytjnlkdeiccllgaa
