
/- Package term: a term's class, and what is asked of a kid alone. -/

import Derived.Test.YtiahilelcppfgaaGreatTA

import Derived.Test.YtiahilelcppfgaaGreatA2

namespace Go.Proofs.YtiahilelcppfgaaGreat

open Go.RowKit

set_option linter.unusedVariables false

theorem wrT {z : Int} (h : -9223372036854775808 ≤ z) (g : z ≤ 9223372036854775807) : IntKind.i64.wrap z = z := by rw [IntKind.wrap_i64]; omega
theorem box6 {W : World} {g : Nat} {c0 c1 c2 c3 c4 c5 : Value} {t : TypeId} (h : W.heap[g]? = some (.cells #[c0, c1, c2, c3, c4, c5] t (0, 0))) :
    W.cell? ⟨g, 0, none⟩ = some c0 ∧ W.cell? ⟨g, 1, none⟩ = some c1 ∧ W.cell? ⟨g, 2, none⟩ = some c2 ∧ W.cell? ⟨g, 3, none⟩ = some c3 ∧ W.cell? ⟨g, 4, none⟩ = some c4 ∧ W.cell? ⟨g, 5, none⟩ = some c5 :=
  ⟨(cell_of_row W g 0 _ t (0, 0) h).trans rfl, (cell_of_row W g 1 _ t (0, 0) h).trans rfl, (cell_of_row W g 2 _ t (0, 0) h).trans rfl, (cell_of_row W g 3 _ t (0, 0) h).trans rfl, (cell_of_row W g 4 _ t (0, 0) h).trans rfl, (cell_of_row W g 5 _ t (0, 0) h).trans rfl⟩

/-- A term's class, by its kind. -/
def clsN (k : Int) : Int := if 1 ≤ k ∧ k ≤ 5 then 1 else if 10 ≤ k ∧ k ≤ 14 then 2 else if 20 ≤ k ∧ k ≤ 46 then 3 else 0
theorem clsN_1 {k : Int} (h : 1 ≤ k) (g : k ≤ 5) : clsN k = 1 := by unfold clsN; rw [if_pos ⟨h, g⟩]
theorem clsN_2 {k : Int} (h : 10 ≤ k) (g : k ≤ 14) : clsN k = 2 := by unfold clsN; rw [if_neg (by omega), if_pos ⟨h, g⟩]
theorem clsN_3 {k : Int} (h : 20 ≤ k) (g : k ≤ 46) : clsN k = 3 := by unfold clsN; rw [if_neg (by omega), if_neg (by omega), if_pos ⟨h, g⟩]
theorem clsN_0 {k : Int} (h : ¬ (1 ≤ k ∧ k ≤ 5)) (g : ¬ (10 ≤ k ∧ k ≤ 14)) (i : ¬ (20 ≤ k ∧ k ≤ 46)) : clsN k = 0 := by unfold clsN; rw [if_neg h, if_neg g, if_neg i]
set_option maxHeartbeats 2000000 in
theorem class_any (k n : Int) (t : ByteArray) (v3 v4 v5 : Value) (w : World) :
    Calls Tryz.prog 11 #[.agg #[.int .i64 k, .string t, .int .i64 n, v3, v4, v5]] w fun e w' => e = .returned (.int .i64 (clsN k)) ∧ Below w.heap.size w w' := by
  have k0 := box_below w (.cells #[.int .i64 k, .string t, .int .i64 n, v3, v4, v5] 31)
  obtain ⟨b0, b1, b2, _, _, _⟩ := box6 (allocNew w (.cells #[.int .i64 k, .string t, .int .i64 n, v3, v4, v5] 31))
  by_cases h0 : k ≤ 0
  · have x0 : decide (1 ≤ k) = false := by simp; omega
    have y0 : decide (k ≤ 5) = true := by simp; omega
    have x1 : decide (10 ≤ k) = false := by simp; omega
    have y1 : decide (k ≤ 14) = true := by simp; omega
    have x2 : decide (20 ≤ k) = false := by simp; omega
    have y2 : decide (k ≤ 46) = true := by simp; omega
    go_enter Tryz.func11, Tryz.ntmps11
    go_wp2
    go_ret
    exact ⟨ret_int (clsN_0 (by omega) (by omega) (by omega)).symm, k0⟩
  by_cases h1 : k ≤ 5
  · have x0 : decide (1 ≤ k) = true := by simp; omega
    have y0 : decide (k ≤ 5) = true := by simp; omega
    have x1 : decide (10 ≤ k) = false := by simp; omega
    have y1 : decide (k ≤ 14) = true := by simp; omega
    have x2 : decide (20 ≤ k) = false := by simp; omega
    have y2 : decide (k ≤ 46) = true := by simp; omega
    go_enter Tryz.func11, Tryz.ntmps11
    go_wp2
    go_ret
    exact ⟨ret_int (clsN_1 (by omega) (by omega)).symm, k0⟩
  by_cases h2 : k ≤ 9
  · have x0 : decide (1 ≤ k) = true := by simp; omega
    have y0 : decide (k ≤ 5) = false := by simp; omega
    have x1 : decide (10 ≤ k) = false := by simp; omega
    have y1 : decide (k ≤ 14) = true := by simp; omega
    have x2 : decide (20 ≤ k) = false := by simp; omega
    have y2 : decide (k ≤ 46) = true := by simp; omega
    go_enter Tryz.func11, Tryz.ntmps11
    go_wp2
    go_ret
    exact ⟨ret_int (clsN_0 (by omega) (by omega) (by omega)).symm, k0⟩
  by_cases h3 : k ≤ 14
  · have x0 : decide (1 ≤ k) = true := by simp; omega
    have y0 : decide (k ≤ 5) = false := by simp; omega
    have x1 : decide (10 ≤ k) = true := by simp; omega
    have y1 : decide (k ≤ 14) = true := by simp; omega
    have x2 : decide (20 ≤ k) = false := by simp; omega
    have y2 : decide (k ≤ 46) = true := by simp; omega
    go_enter Tryz.func11, Tryz.ntmps11
    go_wp2
    go_ret
    exact ⟨ret_int (clsN_2 (by omega) (by omega)).symm, k0⟩
  by_cases h4 : k ≤ 19
  · have x0 : decide (1 ≤ k) = true := by simp; omega
    have y0 : decide (k ≤ 5) = false := by simp; omega
    have x1 : decide (10 ≤ k) = true := by simp; omega
    have y1 : decide (k ≤ 14) = false := by simp; omega
    have x2 : decide (20 ≤ k) = false := by simp; omega
    have y2 : decide (k ≤ 46) = true := by simp; omega
    go_enter Tryz.func11, Tryz.ntmps11
    go_wp2
    go_ret
    exact ⟨ret_int (clsN_0 (by omega) (by omega) (by omega)).symm, k0⟩
  by_cases h5 : k ≤ 46
  · have x0 : decide (1 ≤ k) = true := by simp; omega
    have y0 : decide (k ≤ 5) = false := by simp; omega
    have x1 : decide (10 ≤ k) = true := by simp; omega
    have y1 : decide (k ≤ 14) = false := by simp; omega
    have x2 : decide (20 ≤ k) = true := by simp; omega
    have y2 : decide (k ≤ 46) = true := by simp; omega
    go_enter Tryz.func11, Tryz.ntmps11
    go_wp2
    go_ret
    exact ⟨ret_int (clsN_3 (by omega) (by omega)).symm, k0⟩
  have x0 : decide (1 ≤ k) = true := by simp; omega
  have y0 : decide (k ≤ 5) = false := by simp; omega
  have x1 : decide (10 ≤ k) = true := by simp; omega
  have y1 : decide (k ≤ 14) = false := by simp; omega
  have x2 : decide (20 ≤ k) = true := by simp; omega
  have y2 : decide (k ≤ 46) = false := by simp; omega
  go_enter Tryz.func11, Tryz.ntmps11
  go_wp2
  go_ret
  exact ⟨ret_int (clsN_0 (by omega) (by omega) (by omega)).symm, k0⟩
end Go.Proofs.YtiahilelcppfgaaGreat
