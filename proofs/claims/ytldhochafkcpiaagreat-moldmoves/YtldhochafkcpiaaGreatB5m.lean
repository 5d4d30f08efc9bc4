
/- Items one behind the other: the numbers, and the calls of items. -/

import Derived.Test.YtldhochafkcpiaaGreatA9
import Derived.Test.YtldhochafkcpiaaGreatA11


namespace Go.Proofs.YtldhochafkcpiaaGreat

open Go.RowKit

set_option linter.unusedVariables false

theorem pz_foldl (l : List Int) : ∀ a : Int, l.foldl (fun p z => if z = 0 then p else p * z) a = a * pz l := by
  induction l with
  | nil => intro a; simp [pz]
  | cons z l ih =>
    intro a
    simp only [pz, List.foldl_cons]
    rw [ih, ih]
    split
    · simp
    · rw [Int.one_mul, Int.mul_assoc]
theorem pz_cons (z : Int) (l : List Int) : pz (z :: l) = (if z = 0 then 1 else z) * pz l := by
  conv => lhs; unfold pz; rw [List.foldl_cons, pz_foldl]
  simp
theorem mayF_tail {sh : List Int} (h : mayF sh = 0) : mayF (sh.drop 1) = 0 := by
  obtain ⟨h1, h2, h3⟩ := mayF_zero h
  cases sh with
  | nil => exact h
  | cons z l =>
    have hz : 0 ≤ z := h1 0 (by simp)
    have hl : ∀ k, k < l.length → 0 ≤ nth l k := fun k hk => by have := h1 (k + 1) (by simp; omega); simpa [nth] using this
    have hp := pz_pos (l := l) l.length (Nat.le_refl _) hl
    rw [List.take_length] at hp
    refine mayF_ok (by simpa using hl) (by simp at h2 ⊢; omega) ?_
    rw [pz_cons] at h3
    simp only [List.drop_succ_cons, List.drop_zero]
    split at h3
    · omega
    · have : 1 ≤ z := by omega
      have := Int.mul_le_mul_of_nonneg_right this (show 0 ≤ pz l by omega)
      omega
end Go.Proofs.YtldhochafkcpiaaGreat
