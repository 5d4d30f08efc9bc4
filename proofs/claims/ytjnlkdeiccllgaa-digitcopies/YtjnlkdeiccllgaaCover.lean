
/- Contract of package shape's Cover. -/

import Derived.Test.YtjnlkdeiccllgaaCommon

namespace Go.Proofs.Ytjnlkdeiccllgaa

open Go.RowKit

set_option linter.unusedVariables false

/-- The k-th of some lists. -/
def row (zss : List (List Int)) (k : Nat) : List Int := zss.getD k []

/-- A slice of slices of numbers reads as these lists. -/
structure Rs (w : World) (ao : Option Addr) (n : Nat) (zss : List (List Int)) : Prop where
  len : zss.length = n
  room : n * 24 ≤ 140737488355328
  cells : 0 < n → ∃ b off, ao = some ⟨b, off, none⟩ ∧ b < w.heap.size ∧ ∀ k, k < n → ∃ A L C, w.cell? ⟨b, off + k, none⟩ = some (.slice A L C) ∧ Rd w A L (row zss k) ∧ Sl A L C

theorem Rs.below {B : Nat} {w w' : World} {ao : Option Addr} {n : Nat} {zss : List (List Int)} (h : Rs w ao n zss) (hb : Below B w w') (hB : w.heap.size ≤ B) : Rs w' ao n zss := by
  refine ⟨h.len, h.room, fun h0 => ?_⟩
  obtain ⟨b, off, e, hl, hc⟩ := h.cells h0
  refine ⟨b, off, e, Nat.lt_of_lt_of_le hl hb.size, fun k hk => ?_⟩
  obtain ⟨A, L, C, h1, h2, h3⟩ := hc k hk
  exact ⟨A, L, C, by rw [hb.cell (p := ⟨b, off + k, none⟩) (Nat.lt_of_lt_of_le hl hB)]; exact h1, h2.below hb hB, h3⟩

/-- The common shape of the first k (of none: the first one). -/
def cst (zss : List (List Int)) : Nat → List Int
  | 0 => row zss 0
  | k + 1 => com (cst zss k) (row zss k)
def errAt (zss : List (List Int)) (k : Nat) : Int := if mayF (row zss k) ≠ 0 then mayF (row zss k) else mayF (cst zss (k + 1))
/-- The first error of the first k. -/
def cE (zss : List (List Int)) : Nat → Int
  | 0 => 0
  | k + 1 => if cE zss k ≠ 0 then cE zss k else errAt zss k
def covE (zss : List (List Int)) : Int := if zss.length = 0 then 1 else cE zss zss.length
def covL (zss : List (List Int)) : List Int := if covE zss = 0 then cst zss zss.length else []

theorem cE_stay {zss : List (List Int)} {k : Nat} (h : cE zss k ≠ 0) : ∀ m, cE zss (k + m) = cE zss k
  | 0 => rfl
  | m + 1 => by
    show (if cE zss (k + m) ≠ 0 then cE zss (k + m) else errAt zss (k + m)) = _
    rw [cE_stay h m, if_pos h]
theorem cov_bad {zss : List (List Int)} {k n : Nat} {e : Int} (hl : zss.length = n) (hk : k < n) (h : cE zss (k + 1) = e) (he : e ≠ 0) : covE zss = e ∧ covL zss = [] := by
  have h1 : covE zss = e := by
    unfold covE; rw [if_neg (by omega), hl, show n = (k + 1) + (n - (k + 1)) by omega, cE_stay (by rw [h]; exact he), h]
  exact ⟨h1, by unfold covL; rw [h1, if_neg he]⟩
theorem cov_good {zss : List (List Int)} {n : Nat} (hl : zss.length = n) (h0 : 0 < n) (h : cE zss n = 0) : covE zss = 0 ∧ covL zss = cst zss n := by
  have h1 : covE zss = 0 := by unfold covE; rw [if_neg (by omega), hl, h]
  exact ⟨h1, by unfold covL; rw [h1, if_pos rfl, hl]⟩
theorem cE_row {zss : List (List Int)} {k : Nat} (h : cE zss k = 0) (hr : mayF (row zss k) ≠ 0) : cE zss (k + 1) = mayF (row zss k) := by
  show (if cE zss k ≠ 0 then cE zss k else errAt zss k) = _
  rw [if_neg (by simp [h])]; unfold errAt; rw [if_pos hr]
theorem cE_com {zss : List (List Int)} {k : Nat} (h : cE zss k = 0) (hr : mayF (row zss k) = 0) : cE zss (k + 1) = mayF (cst zss (k + 1)) := by
  show (if cE zss k ≠ 0 then cE zss k else errAt zss k) = _
  rw [if_neg (by simp [h])]; unfold errAt; rw [if_neg (by simp [hr])]

end Go.Proofs.Ytjnlkdeiccllgaa
