
/- Items one behind the other: the numbers, and the calls of items. -/

import Derived.Test.YthncgocjegalhaaA7

import Derived.Test.YthncgocjegalhaaMath2

import Derived.Test.YthncgocjegalhaaA10

namespace Go.Proofs.Ythncgocjegalhaa

open Go.RowKit

set_option linter.unusedVariables false

/-- An array in a box. -/
structure Bx (W : World) (g : Nat) (so : Option Addr) (sn sc : Nat) (ao : Option Addr) (an ac : Nat) (sh at' : List Int) : Prop where
  c0 : W.cell? ⟨g, 0, none⟩ = some (.slice so sn sc)
  c1 : W.cell? ⟨g, 1, none⟩ = some (.slice ao an ac)
  s : Rd W so sn sh
  a : Rd W ao an at'
theorem Bx.below {W W' : World} {g : Nat} {so : Option Addr} {sn sc : Nat} {ao : Option Addr} {an ac : Nat} {sh at' : List Int} (h : Bx W g so sn sc ao an ac sh at') (k : Below W.heap.size W W') : Bx W' g so sn sc ao an ac sh at' := by
  have l0 := World.block_lt_of_cell? W _ h.c0
  exact ⟨(k.cell (p := ⟨g, 0, none⟩) l0).trans h.c0, (k.cell (p := ⟨g, 1, none⟩) l0).trans h.c1, h.s.below k (Nat.le_refl _), h.a.below k (Nat.le_refl _)⟩
theorem bx_new {W : World} {so : Option Addr} {sn sc : Nat} {ao : Option Addr} {an ac : Nat} {sh at' : List Int} (h : Rd W so sn sh) (g : Rd W ao an at') : Bx (W.alloc (.cells #[.slice so sn sc, .slice ao an ac] 36)) W.heap.size so sn sc ao an ac sh at' := by
  have b0 := allocNew W (.cells #[.slice so sn sc, .slice ao an ac] 36)
  have k := box_below W (.cells #[.slice so sn sc, .slice ao an ac] 36)
  exact ⟨(cell_of_row _ _ 0 _ _ (0, 0) b0).trans rfl, (cell_of_row _ _ 1 _ _ (0, 0) b0).trans rfl, h.below k (Nat.le_refl _), g.below k (Nat.le_refl _)⟩
theorem btw {B : Nat} {a b c : World} (h : Below B a b) (k : Below b.heap.size b c) (hB : B ≤ b.heap.size) : Below B a c := h.trans (k.mono hB)

end Go.Proofs.Ythncgocjegalhaa

namespace Go.Proofs.Ythncgocjegalhaa

open Go.RowKit

set_option linter.unusedVariables false

theorem pz_foldl (l : List Int) : ∀ a : Int, l.foldl (fun p z => if z = 0 then p else p * z) a = a * pz l := by
  induction l with
  | nil => intro a; simp [pz]
  | cons z l ih =>
    intro a
    simp only [pz, List.foldl_cons]
    rw [ih, ih]
    split
    · simp
    · rw [Int.one_mul, Int.mul_assoc]
theorem pz_cons (z : Int) (l : List Int) : pz (z :: l) = (if z = 0 then 1 else z) * pz l := by
  conv => lhs; unfold pz; rw [List.foldl_cons, pz_foldl]
  simp
theorem mayF_tail {sh : List Int} (h : mayF sh = 0) : mayF (sh.drop 1) = 0 := by
  obtain ⟨h1, h2, h3⟩ := mayF_zero h
  cases sh with
  | nil => exact h
  | cons z l =>
    have hz : 0 ≤ z := h1 0 (by simp)
    have hl : ∀ k, k < l.length → 0 ≤ nth l k := fun k hk => by have := h1 (k + 1) (by simp; omega); simpa [nth] using this
    have hp := pz_pos (l := l) l.length (Nat.le_refl _) hl
    rw [List.take_length] at hp
    refine mayF_ok (by simpa using hl) (by simp at h2 ⊢; omega) ?_
    rw [pz_cons] at h3
    simp only [List.drop_succ_cons, List.drop_zero]
    split at h3
    · omega
    · have : 1 ≤ z := by omega
      have := Int.mul_le_mul_of_nonneg_right this (show 0 ≤ pz l by omega)
      omega
end Go.Proofs.Ythncgocjegalhaa
