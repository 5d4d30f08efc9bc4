
/- Contracts of package mold: the tables. -/

import Derived.Test.YtldhochafkcpiaaGreatMJ

namespace Go.Proofs.YtldhochafkcpiaaGreat

open Go.RowKit

set_option linter.unusedVariables false

def mOp (k : Nat) : Int := [22, 23, 24, 25, 26, 28, 30, 29, 31, 32, 33, 41, 42].getD k 0
def mFnN (k : Nat) : Nat := [34, 35, 36, 37, 38, 39, 40, 41, 42, 43, 44, 45, 45].getD k 0
def dOp (k : Nat) : Int := [23, 24, 25, 26, 28, 29, 32, 33, 41, 42].getD k 0
def dNum (k : Nat) : Bool := [true, false, false, false, true, true, true, true, false, false].getD k false
def dFnN (k : Nat) : Nat := [24, 25, 26, 27, 28, 29, 30, 31, 32, 33].getD k 0

def monadRow : List Value := [.int .i64 22, .func (.func 34) #[] #[], .int .i64 23, .func (.func 35) #[] #[], .int .i64 24, .func (.func 36) #[] #[], .int .i64 25, .func (.func 37) #[] #[], .int .i64 26, .func (.func 38) #[] #[], .int .i64 28, .func (.func 39) #[] #[], .int .i64 30, .func (.func 40) #[] #[], .int .i64 29, .func (.func 41) #[] #[], .int .i64 31, .func (.func 42) #[] #[], .int .i64 32, .func (.func 43) #[] #[], .int .i64 33, .func (.func 44) #[] #[], .int .i64 41, .func (.func 45) #[] #[], .int .i64 42, .func (.func 45) #[] #[]]
theorem monadRow_at (l : List Value) (hl : l = monadRow) : ∀ k : Nat, k < 13 → l[k * 2]? = some (.int .i64 (mOp k)) ∧ l[k * 2 + 1]? = some (.func (.func (mFnN k)) #[] #[]) := by
  subst hl
  intro k hk
  match k, hk with
  | 0, _ => exact ⟨rfl, rfl⟩
  | 1, _ => exact ⟨rfl, rfl⟩
  | 2, _ => exact ⟨rfl, rfl⟩
  | 3, _ => exact ⟨rfl, rfl⟩
  | 4, _ => exact ⟨rfl, rfl⟩
  | 5, _ => exact ⟨rfl, rfl⟩
  | 6, _ => exact ⟨rfl, rfl⟩
  | 7, _ => exact ⟨rfl, rfl⟩
  | 8, _ => exact ⟨rfl, rfl⟩
  | 9, _ => exact ⟨rfl, rfl⟩
  | 10, _ => exact ⟨rfl, rfl⟩
  | 11, _ => exact ⟨rfl, rfl⟩
  | 12, _ => exact ⟨rfl, rfl⟩

theorem monadTab {W : World} {g : Nat} (h : W.heap[g]? = some (.cells monadRow.toArray 53 (0, 0))) : ∀ k : Nat, k < 13 → W.cell? ⟨g, k * 2, none⟩ = some (.int .i64 (mOp k)) ∧ W.cell? ⟨g, k * 2 + 1, none⟩ = some (.func (.func (mFnN k)) #[] #[]) := fun k hk =>
  have tab := monadRow_at _ rfl
  ⟨(cell_of_row W g _ _ _ (0, 0) h).trans (by simpa using (tab k hk).1), (cell_of_row W g _ _ _ (0, 0) h).trans (by simpa using (tab k hk).2)⟩
set_option maxRecDepth 20000 in
theorem monads_any (w : World) : Calls Tryz.prog 23 #[] w fun e w' => e = .returned (.slice (some ⟨w.heap.size, 0, none⟩) 13 13) ∧ w' = w.alloc (.cells monadRow.toArray 53) := by
  go_enter Tryz.func23, Tryz.ntmps23
  go_wp2
  go_ret
  exact ⟨rfl, rfl⟩

def dyadRow : List Value := [.int .i64 23, .bool true, .func (.func 24) #[] #[], .int .i64 24, .bool false, .func (.func 25) #[] #[], .int .i64 25, .bool false, .func (.func 26) #[] #[], .int .i64 26, .bool false, .func (.func 27) #[] #[], .int .i64 28, .bool true, .func (.func 28) #[] #[], .int .i64 29, .bool true, .func (.func 29) #[] #[], .int .i64 32, .bool true, .func (.func 30) #[] #[], .int .i64 33, .bool true, .func (.func 31) #[] #[], .int .i64 41, .bool false, .func (.func 32) #[] #[], .int .i64 42, .bool false, .func (.func 33) #[] #[]]
theorem dyadRow_at (l : List Value) (hl : l = dyadRow) : ∀ k : Nat, k < 10 → l[k * 3]? = some (.int .i64 (dOp k)) ∧ l[k * 3 + 1]? = some (.bool (dNum k)) ∧ l[k * 3 + 2]? = some (.func (.func (dFnN k)) #[] #[]) := by
  subst hl
  intro k hk
  match k, hk with
  | 0, _ => exact ⟨rfl, rfl, rfl⟩
  | 1, _ => exact ⟨rfl, rfl, rfl⟩
  | 2, _ => exact ⟨rfl, rfl, rfl⟩
  | 3, _ => exact ⟨rfl, rfl, rfl⟩
  | 4, _ => exact ⟨rfl, rfl, rfl⟩
  | 5, _ => exact ⟨rfl, rfl, rfl⟩
  | 6, _ => exact ⟨rfl, rfl, rfl⟩
  | 7, _ => exact ⟨rfl, rfl, rfl⟩
  | 8, _ => exact ⟨rfl, rfl, rfl⟩
  | 9, _ => exact ⟨rfl, rfl, rfl⟩

theorem dyadTab {W : World} {g : Nat} (h : W.heap[g]? = some (.cells dyadRow.toArray 45 (0, 0))) : ∀ k : Nat, k < 10 → W.cell? ⟨g, k * 3, none⟩ = some (.int .i64 (dOp k)) ∧ W.cell? ⟨g, k * 3 + 1, none⟩ = some (.bool (dNum k)) ∧ W.cell? ⟨g, k * 3 + 2, none⟩ = some (.func (.func (dFnN k)) #[] #[]) := fun k hk =>
  have tab := dyadRow_at _ rfl
  ⟨(cell_of_row W g _ _ _ (0, 0) h).trans (by simpa using (tab k hk).1), (cell_of_row W g _ _ _ (0, 0) h).trans (by simpa using (tab k hk).2.1), (cell_of_row W g _ _ _ (0, 0) h).trans (by simpa using (tab k hk).2.2)⟩
set_option maxRecDepth 20000 in
theorem dyads_any (w : World) : Calls Tryz.prog 21 #[] w fun e w' => e = .returned (.slice (some ⟨w.heap.size, 0, none⟩) 10 10) ∧ w' = w.alloc (.cells dyadRow.toArray 45) := by
  go_enter Tryz.func21, Tryz.ntmps21
  go_wp2
  go_ret
  exact ⟨rfl, rfl⟩

theorem bx3 {W : World} {g : Nat} {a b c : Value} {t : TypeId} (h : W.heap[g]? = some (.cells #[a, b, c] t (0, 0))) :
    W.cell? ⟨g, 0, none⟩ = some a ∧ W.cell? ⟨g, 1, none⟩ = some b ∧ W.cell? ⟨g, 2, none⟩ = some c ∧ W.frozen? ⟨g, 0, none⟩ = false ∧ W.frozen? ⟨g, 1, none⟩ = false ∧ W.frozen? ⟨g, 2, none⟩ = false :=
  ⟨(cell_of_row W g 0 _ t (0, 0) h).trans rfl, (cell_of_row W g 1 _ t (0, 0) h).trans rfl, (cell_of_row W g 2 _ t (0, 0) h).trans rfl, frozen_of_row W g 0 _ t h, frozen_of_row W g 1 _ t h, frozen_of_row W g 2 _ t h⟩
theorem below_set3 {a W : World} {B b : Nat} (o1 o2 o3 : Nat) (v1 v2 v3 : Value) (h : Below B a W) (hb : B ≤ b) : Below B a (((W.setCell ⟨b, o1, none⟩ v1).setCell ⟨b, o2, none⟩ v2).setCell ⟨b, o3, none⟩ v3) :=
  ((h.setCell (p := ⟨b, o1, none⟩) hb v1).setCell (p := ⟨b, o2, none⟩) hb v2).setCell (p := ⟨b, o3, none⟩) hb v3

set_option maxHeartbeats 2000000 in
theorem monadOf_yes (op : Int) (k : Nat) (w : World) (hk : k < 13) (hop : mOp k = op) (hno : ∀ j, j < k → mOp j ≠ op) :
    Calls Tryz.prog 20 #[.int .i64 op] w fun e w' => e = .returned (.tuple #[.agg #[.int .i64 op, .func (.func (mFnN k)) #[] #[]], .bool true]) ∧ Below w.heap.size w w' := by
  have HN : Hid (∀ j, j < k → mOp j ≠ op) := hno
  have HO : Hid (mOp k = op) := hop
  clear hno hop
  have hd := monads_any (w.alloc (.cells #[.int .i64 0, .nilFunc] 53))
  have T := monadTab (allocNew (w.alloc (.cells #[.int .i64 0, .nilFunc] 53)) (.cells monadRow.toArray 53))
  have R := ((box_below (w.alloc (.cells #[.int .i64 0, .nilFunc] 53)) (.cells monadRow.toArray 53)).block w.heap.size (by simp)).trans (allocNew w (.cells #[.int .i64 0, .nilFunc] 53))
  have B0 : Below w.heap.size w ((w.alloc (.cells #[.int .i64 0, .nilFunc] 53)).alloc (.cells monadRow.toArray 53)) := (box_below w _).trans ((box_below _ _).mono (by simp))
  simp only [World.size_alloc] at T hd
  generalize hW2 : (w.alloc (.cells #[.int .i64 0, .nilFunc] 53)).alloc (.cells monadRow.toArray 53) = W2 at *
  have hs2 : W2.heap.size = w.heap.size + 2 := by rw [← hW2]; simp
  clear hW2
  go_enter Tryz.func20, Tryz.ntmps20
  go_wp2_with (go_at_call 23; (with_reducible refine hd.mono ?_); rintro e w' ⟨rfl, hw⟩; rw [hw]; clear hw w' hd)
  go_loopw [8] (fun i V => ∃ j : Nat, j ≤ k ∧ i = .int .i64 (j : Nat) ∧ Below W2.heap.size W2 V) (fun i _ => 13 - (intOf i).toNat)
  case atStart => exact ⟨0, Nat.zero_le _, rfl, Below.refl _ _⟩
  case round =>
    obtain ⟨j, hj, rfl, BV⟩ := hrel
    obtain ⟨r0, r1⟩ := T j (by omega)
    have lt := World.block_lt_of_cell? W2 _ r0
    have y0 := (BV.cell (p := ⟨w.heap.size + 1, j * 2, none⟩) lt).trans r0; have y1 := (BV.cell (p := ⟨w.heap.size + 1, j * 2 + 1, none⟩) lt).trans r1
    have bj : (j : Int) < 13 := by omega
    have tj : decide ((j : Int) < 13) = true := by simp; omega
    by_cases hlt : j < k
    · have hne : (mOp j == op) = false := by simpa using HN.out j hlt
      generalize mOp j = OJ at *
      go_wp2
      go_roundw
      case rel => exact ⟨j + 1, by omega, by go_num, BV.trans ((box_below wr _).mono BV.size)⟩
      case measure => simp [intOf]; omega
    · obtain rfl : k = j := by omega
      have hO := HO.out
      have BV2 := BV.trans ((box_below wr (.cells #[.int .i64 op, .func (.func (mFnN k)) #[] #[]] 53)).mono BV.size)
      have RV := (BV2.block w.heap.size (by omega)).trans R
      obtain ⟨q0, q1, z0, z1⟩ := box2 RV
      have BB := B0.trans (BV2.mono (by omega))
      rw [hO] at y0
      clear hO
      have te : (op == op) = true := by simp
      go_wp2
      (try simp only [Exit.inBlock, Exit.then])
      refine bodyPost_ret (v := .tuple #[.agg #[.int .i64 op, .func (.func (mFnN k)) #[] #[]], .bool true]) (by rw [results_cell_tmp rfl]; go_simp) rfl ?_
      exact ⟨rfl, below_set2 _ _ _ _ BB (Nat.le_refl _) (Nat.le_refl _)⟩

set_option maxHeartbeats 2000000 in
theorem dyadOf_yes (op : Int) (k : Nat) (w : World) (hk : k < 10) (hop : dOp k = op) (hno : ∀ j, j < k → dOp j ≠ op) :
    Calls Tryz.prog 17 #[.int .i64 op] w fun e w' => e = .returned (.tuple #[.agg #[.int .i64 op, .bool (dNum k), .func (.func (dFnN k)) #[] #[]], .bool true]) ∧ Below w.heap.size w w' := by
  have HN : Hid (∀ j, j < k → dOp j ≠ op) := hno
  have HO : Hid (dOp k = op) := hop
  clear hno hop
  have hd := dyads_any (w.alloc (.cells #[.int .i64 0, .bool false, .nilFunc] 45))
  have T := dyadTab (allocNew (w.alloc (.cells #[.int .i64 0, .bool false, .nilFunc] 45)) (.cells dyadRow.toArray 45))
  have R := ((box_below (w.alloc (.cells #[.int .i64 0, .bool false, .nilFunc] 45)) (.cells dyadRow.toArray 45)).block w.heap.size (by simp)).trans (allocNew w (.cells #[.int .i64 0, .bool false, .nilFunc] 45))
  have B0 : Below w.heap.size w ((w.alloc (.cells #[.int .i64 0, .bool false, .nilFunc] 45)).alloc (.cells dyadRow.toArray 45)) := (box_below w _).trans ((box_below _ _).mono (by simp))
  simp only [World.size_alloc] at T hd
  generalize hW2 : (w.alloc (.cells #[.int .i64 0, .bool false, .nilFunc] 45)).alloc (.cells dyadRow.toArray 45) = W2 at *
  have hs2 : W2.heap.size = w.heap.size + 2 := by rw [← hW2]; simp
  clear hW2
  go_enter Tryz.func17, Tryz.ntmps17
  go_wp2_with (go_at_call 21; (with_reducible refine hd.mono ?_); rintro e w' ⟨rfl, hw⟩; rw [hw]; clear hw w' hd)
  go_loopw [8] (fun i V => ∃ j : Nat, j ≤ k ∧ i = .int .i64 (j : Nat) ∧ Below W2.heap.size W2 V) (fun i _ => 10 - (intOf i).toNat)
  case atStart => exact ⟨0, Nat.zero_le _, rfl, Below.refl _ _⟩
  case round =>
    obtain ⟨j, hj, rfl, BV⟩ := hrel
    obtain ⟨r0, r1, r2⟩ := T j (by omega)
    have lt := World.block_lt_of_cell? W2 _ r0
    have y0 := (BV.cell (p := ⟨w.heap.size + 1, j * 3, none⟩) lt).trans r0; have y1 := (BV.cell (p := ⟨w.heap.size + 1, j * 3 + 1, none⟩) lt).trans r1; have y2 := (BV.cell (p := ⟨w.heap.size + 1, j * 3 + 2, none⟩) lt).trans r2
    have bj : (j : Int) < 10 := by omega
    have tj : decide ((j : Int) < 10) = true := by simp; omega
    by_cases hlt : j < k
    · have hne : (dOp j == op) = false := by simpa using HN.out j hlt
      generalize dOp j = OJ at *
      go_wp2
      go_roundw
      case rel => exact ⟨j + 1, by omega, by go_num, BV.trans ((box_below wr _).mono BV.size)⟩
      case measure => simp [intOf]; omega
    · obtain rfl : k = j := by omega
      have hO := HO.out
      have BV2 := BV.trans ((box_below wr (.cells #[.int .i64 op, .bool (dNum k), .func (.func (dFnN k)) #[] #[]] 45)).mono BV.size)
      have RV := (BV2.block w.heap.size (by omega)).trans R
      obtain ⟨q0, q1, q2, z0, z1, z2⟩ := bx3 RV
      have BB := B0.trans (BV2.mono (by omega))
      rw [hO] at y0
      clear hO
      have te : (op == op) = true := by simp
      go_wp2
      (try simp only [Exit.inBlock, Exit.then])
      refine bodyPost_ret (v := .tuple #[.agg #[.int .i64 op, .bool (dNum k), .func (.func (dFnN k)) #[] #[]], .bool true]) (by rw [results_cell_tmp rfl]; go_simp) rfl ?_
      exact ⟨rfl, below_set3 _ _ _ _ _ _ BB (Nat.le_refl _)⟩

set_option maxHeartbeats 2000000 in
theorem dyadOf_no (op : Int) (w : World) (hno : ∀ j, j < 10 → dOp j ≠ op) :
    Calls Tryz.prog 17 #[.int .i64 op] w fun e w' => e = .returned (.tuple #[.agg #[.int .i64 0, .bool false, .nilFunc], .bool false]) ∧ Below w.heap.size w w' := by
  have HN : Hid (∀ j, j < 10 → dOp j ≠ op) := hno
  clear hno
  have hd := dyads_any (w.alloc (.cells #[.int .i64 0, .bool false, .nilFunc] 45))
  have T := dyadTab (allocNew (w.alloc (.cells #[.int .i64 0, .bool false, .nilFunc] 45)) (.cells dyadRow.toArray 45))
  have R := ((box_below (w.alloc (.cells #[.int .i64 0, .bool false, .nilFunc] 45)) (.cells dyadRow.toArray 45)).block w.heap.size (by simp)).trans (allocNew w (.cells #[.int .i64 0, .bool false, .nilFunc] 45))
  have B0 : Below w.heap.size w ((w.alloc (.cells #[.int .i64 0, .bool false, .nilFunc] 45)).alloc (.cells dyadRow.toArray 45)) := (box_below w _).trans ((box_below _ _).mono (by simp))
  simp only [World.size_alloc] at T hd
  generalize hW2 : (w.alloc (.cells #[.int .i64 0, .bool false, .nilFunc] 45)).alloc (.cells dyadRow.toArray 45) = W2 at *
  have hs2 : W2.heap.size = w.heap.size + 2 := by rw [← hW2]; simp
  clear hW2
  go_enter Tryz.func17, Tryz.ntmps17
  go_wp2_with (go_at_call 21; (with_reducible refine hd.mono ?_); rintro e w' ⟨rfl, hw⟩; rw [hw]; clear hw w' hd)
  go_loopw [8] (fun i V => ∃ j : Nat, j ≤ 10 ∧ i = .int .i64 (j : Nat) ∧ Below W2.heap.size W2 V) (fun i _ => 10 - (intOf i).toNat)
  case atStart => exact ⟨0, Nat.zero_le _, rfl, Below.refl _ _⟩
  case round =>
    obtain ⟨j, hj, rfl, BV⟩ := hrel
    by_cases hlt : j < 10
    · obtain ⟨r0, r1, r2⟩ := T j (by omega)
      have lt := World.block_lt_of_cell? W2 _ r0
      have y0 := (BV.cell (p := ⟨w.heap.size + 1, j * 3, none⟩) lt).trans r0; have y1 := (BV.cell (p := ⟨w.heap.size + 1, j * 3 + 1, none⟩) lt).trans r1; have y2 := (BV.cell (p := ⟨w.heap.size + 1, j * 3 + 2, none⟩) lt).trans r2
      have bj : (j : Int) < 10 := by omega
      have tj : decide ((j : Int) < 10) = true := by simp; omega
      have hne : (dOp j == op) = false := by simpa using HN.out j hlt
      generalize dOp j = OJ at *
      go_wp2
      go_roundw
      case rel => exact ⟨j + 1, by omega, by go_num, BV.trans ((box_below wr _).mono BV.size)⟩
      case measure => simp [intOf]; omega
    · obtain rfl : j = 10 := by omega
      have RV := (BV.block w.heap.size (by omega)).trans R
      obtain ⟨q0, q1, q2, z0, z1, z2⟩ := bx3 RV
      have BB := B0.trans (BV.mono (by omega))
      go_wp2
      (try simp only [Exit.inBlock, Exit.then])
      refine bodyPost_ret (v := .tuple #[.agg #[.int .i64 0, .bool false, .nilFunc], .bool false]) (by rw [results_cell_tmp rfl]; go_simp) rfl ?_
      exact ⟨rfl, below_set3 _ _ _ _ _ _ BB (Nat.le_refl _)⟩
end Go.Proofs.YtldhochafkcpiaaGreat
