
/- Contracts of package seek: the table, and what Monad and Dyad do with it. -/

import Derived.Test.YtmepcenbaohcoaaGreatYM

import Derived.Laws.EntriesVeiled

namespace Go.Proofs.YtmepcenbaohcoaaGreat

open Go.RowKit

set_option linter.unusedVariables false

def sOp (k : Nat) : Int := [27, 34, 35, 36, 11, 10, 37, 38, 18, 19].getD k 0
def sM (k : Nat) : Value := [.nilFunc, .nilFunc, .nilFunc, .func (.func 41) #[] #[], .func (.func 42) #[] #[], .func (.func 43) #[] #[], .func (.func 44) #[] #[], .func (.func 46) #[] #[], .nilFunc, .nilFunc].getD k .nilFunc
def sD (k : Nat) : Value := [.func (.func 38) #[] #[], .func (.func 39) #[] #[], .func (.func 40) #[] #[], .nilFunc, .nilFunc, .nilFunc, .func (.func 45) #[] #[], .func (.func 47) #[] #[], .func (.func 48) #[] #[], .func (.func 49) #[] #[]].getD k .nilFunc
def seekRow : List Value := [.int .i64 27, .nilFunc, .func (.func 38) #[] #[], .int .i64 34, .nilFunc, .func (.func 39) #[] #[], .int .i64 35, .nilFunc, .func (.func 40) #[] #[], .int .i64 36, .func (.func 41) #[] #[], .nilFunc, .int .i64 11, .func (.func 42) #[] #[], .nilFunc, .int .i64 10, .func (.func 43) #[] #[], .nilFunc, .int .i64 37, .func (.func 44) #[] #[], .func (.func 45) #[] #[], .int .i64 38, .func (.func 46) #[] #[], .func (.func 47) #[] #[], .int .i64 18, .nilFunc, .func (.func 48) #[] #[], .int .i64 19, .nilFunc, .func (.func 49) #[] #[]]
theorem seekRow_at (l : List Value) (hl : l = seekRow) : ∀ k : Nat, k < 10 → l[k * 3]? = some (.int .i64 (sOp k)) ∧ l[k * 3 + 1]? = some (sM k) ∧ l[k * 3 + 2]? = some (sD k) := by
  subst hl
  intro k hk
  match k, hk with
  | 0, _ => exact ⟨rfl, rfl, rfl⟩
  | 1, _ => exact ⟨rfl, rfl, rfl⟩
  | 2, _ => exact ⟨rfl, rfl, rfl⟩
  | 3, _ => exact ⟨rfl, rfl, rfl⟩
  | 4, _ => exact ⟨rfl, rfl, rfl⟩
  | 5, _ => exact ⟨rfl, rfl, rfl⟩
  | 6, _ => exact ⟨rfl, rfl, rfl⟩
  | 7, _ => exact ⟨rfl, rfl, rfl⟩
  | 8, _ => exact ⟨rfl, rfl, rfl⟩
  | 9, _ => exact ⟨rfl, rfl, rfl⟩

theorem seekTab {W : World} {g : Nat} (h : W.heap[g]? = some (.cells seekRow.toArray 47 (0, 0))) : ∀ k : Nat, k < 10 → W.cell? ⟨g, k * 3, none⟩ = some (.int .i64 (sOp k)) ∧ W.cell? ⟨g, k * 3 + 1, none⟩ = some (sM k) ∧ W.cell? ⟨g, k * 3 + 2, none⟩ = some (sD k) := fun k hk =>
  have tab := seekRow_at _ rfl
  ⟨(cell_of_row W g _ _ _ (0, 0) h).trans (by simpa using (tab k hk).1), (cell_of_row W g _ _ _ (0, 0) h).trans (by simpa using (tab k hk).2.1), (cell_of_row W g _ _ _ (0, 0) h).trans (by simpa using (tab k hk).2.2)⟩
set_option maxRecDepth 20000 in
theorem rows_any (w : World) : Calls Tryz.prog 21 #[] w fun e w' => e = .returned (.slice (some ⟨w.heap.size, 0, none⟩) 10 10) ∧ w' = w.alloc (.cells seekRow.toArray 47) := by
  go_enter Tryz.func21, Tryz.ntmps21
  go_wp2
  go_ret
  exact ⟨rfl, rfl⟩
theorem bx3Q {W : World} {g : Nat} {a b c : Value} {t : TypeId} (h : W.heap[g]? = some (.cells #[a, b, c] t (0, 0))) :
    W.cell? ⟨g, 0, none⟩ = some a ∧ W.cell? ⟨g, 1, none⟩ = some b ∧ W.cell? ⟨g, 2, none⟩ = some c ∧ W.frozen? ⟨g, 0, none⟩ = false ∧ W.frozen? ⟨g, 1, none⟩ = false ∧ W.frozen? ⟨g, 2, none⟩ = false :=
  ⟨(cell_of_row W g 0 _ t (0, 0) h).trans rfl, (cell_of_row W g 1 _ t (0, 0) h).trans rfl, (cell_of_row W g 2 _ t (0, 0) h).trans rfl, frozen_of_row W g 0 _ t h, frozen_of_row W g 1 _ t h, frozen_of_row W g 2 _ t h⟩
theorem below_set3Q {a W : World} {B b : Nat} (o1 o2 o3 : Nat) (v1 v2 v3 : Value) (h : Below B a W) (hb : B ≤ b) : Below B a (((W.setCell ⟨b, o1, none⟩ v1).setCell ⟨b, o2, none⟩ v2).setCell ⟨b, o3, none⟩ v3) :=
  ((h.setCell (p := ⟨b, o1, none⟩) hb v1).setCell (p := ⟨b, o2, none⟩) hb v2).setCell (p := ⟨b, o3, none⟩) hb v3
theorem sRow_kinds (k : Nat) (hk : k < 10) : (sM k = .nilFunc ∧ ∃ G, sD k = .func (.func G) #[] #[]) ∨ (sD k = .nilFunc ∧ ∃ F, sM k = .func (.func F) #[] #[]) ∨ ∃ F G, sM k = .func (.func F) #[] #[] ∧ sD k = .func (.func G) #[] #[] := by
  match k, hk with
  | 0, _ => exact .inl ⟨rfl, _, rfl⟩
  | 1, _ => exact .inl ⟨rfl, _, rfl⟩
  | 2, _ => exact .inl ⟨rfl, _, rfl⟩
  | 3, _ => exact .inr (.inl ⟨rfl, _, rfl⟩)
  | 4, _ => exact .inr (.inl ⟨rfl, _, rfl⟩)
  | 5, _ => exact .inr (.inl ⟨rfl, _, rfl⟩)
  | 6, _ => exact .inr (.inr ⟨_, _, rfl, rfl⟩)
  | 7, _ => exact .inr (.inr ⟨_, _, rfl, rfl⟩)
  | 8, _ => exact .inl ⟨rfl, _, rfl⟩
  | 9, _ => exact .inl ⟨rfl, _, rfl⟩

set_option maxHeartbeats 2000000 in
theorem rowOf_27 (w : World) :
    Calls Tryz.prog 15 #[.int .i64 27] w fun e w' => e = .returned (.tuple #[.agg #[.int .i64 27, .nilFunc, .func (.func 38) #[] #[]], .bool true]) ∧ Below w.heap.size w w' := by
  have hd := rows_any (w.alloc (.cells #[.int .i64 0, .nilFunc, .nilFunc] 47))
  have T := seekTab (allocNew (w.alloc (.cells #[.int .i64 0, .nilFunc, .nilFunc] 47)) (.cells seekRow.toArray 47))
  have R := ((box_below (w.alloc (.cells #[.int .i64 0, .nilFunc, .nilFunc] 47)) (.cells seekRow.toArray 47)).block w.heap.size (by simp)).trans (allocNew w (.cells #[.int .i64 0, .nilFunc, .nilFunc] 47))
  have B0 : Below w.heap.size w ((w.alloc (.cells #[.int .i64 0, .nilFunc, .nilFunc] 47)).alloc (.cells seekRow.toArray 47)) := (box_below w _).trans ((box_below _ _).mono (by simp))
  simp only [World.size_alloc] at T hd
  generalize hW2 : (w.alloc (.cells #[.int .i64 0, .nilFunc, .nilFunc] 47)).alloc (.cells seekRow.toArray 47) = W2 at *
  have hs2 : W2.heap.size = w.heap.size + 2 := by rw [← hW2]; simp
  clear hW2
  go_enter Tryz.func15, Tryz.ntmps15
  go_wp2_with (go_at_call 21; (with_reducible refine hd.mono ?_); rintro e w' ⟨rfl, hw⟩; rw [hw]; clear hw w' hd)
  go_loopw [8] (fun i V => ∃ j : Nat, j ≤ 0 ∧ i = .int .i64 (j : Nat) ∧ Below W2.heap.size W2 V) (fun i _ => 10 - (intOf i).toNat)
  case atStart => exact ⟨0, Nat.zero_le _, rfl, Below.refl _ _⟩
  case round =>
    obtain ⟨j, hj, rfl, BV⟩ := hrel
    obtain ⟨r0, r1, r2⟩ := T j (by omega)
    have lt := World.block_lt_of_cell? W2 _ r0
    have y0 := (BV.cell (p := ⟨w.heap.size + 1, j * 3, none⟩) lt).trans r0; have y1 := (BV.cell (p := ⟨w.heap.size + 1, j * 3 + 1, none⟩) lt).trans r1; have y2 := (BV.cell (p := ⟨w.heap.size + 1, j * 3 + 2, none⟩) lt).trans r2
    have bj : (j : Int) < 10 := by omega
    have tj : decide ((j : Int) < 10) = true := by simp; omega
    by_cases hlt : j < 0
    · exact absurd hlt (Nat.not_lt_zero _)
    · obtain rfl : j = 0 := by omega
      rw [show sOp 0 = 27 from rfl] at y0
      rw [show sM 0 = .nilFunc from rfl] at y1
      rw [show sD 0 = .func (.func 38) #[] #[] from rfl] at y2
      have BV2 := BV.trans ((box_below wr (.cells #[.int .i64 27, .nilFunc, .func (.func 38) #[] #[]] 47)).mono BV.size)
      have RV := (BV2.block w.heap.size (by omega)).trans R
      obtain ⟨q0, q1, q2, z0, z1, z2⟩ := bx3Q RV
      have BB := B0.trans (BV2.mono (by omega))
      clear T R
      go_wp2
      (try simp only [Exit.inBlock, Exit.then])
      refine bodyPost_ret (v := .tuple #[.agg #[.int .i64 27, .nilFunc, .func (.func 38) #[] #[]], .bool true]) (by rw [results_cell_tmp rfl]; go_simp) rfl ?_
      exact ⟨rfl, below_set3Q _ _ _ _ _ _ BB (Nat.le_refl _)⟩

set_option maxHeartbeats 2000000 in
theorem rowOf_34 (w : World) :
    Calls Tryz.prog 15 #[.int .i64 34] w fun e w' => e = .returned (.tuple #[.agg #[.int .i64 34, .nilFunc, .func (.func 39) #[] #[]], .bool true]) ∧ Below w.heap.size w w' := by
  have hd := rows_any (w.alloc (.cells #[.int .i64 0, .nilFunc, .nilFunc] 47))
  have T := seekTab (allocNew (w.alloc (.cells #[.int .i64 0, .nilFunc, .nilFunc] 47)) (.cells seekRow.toArray 47))
  have R := ((box_below (w.alloc (.cells #[.int .i64 0, .nilFunc, .nilFunc] 47)) (.cells seekRow.toArray 47)).block w.heap.size (by simp)).trans (allocNew w (.cells #[.int .i64 0, .nilFunc, .nilFunc] 47))
  have B0 : Below w.heap.size w ((w.alloc (.cells #[.int .i64 0, .nilFunc, .nilFunc] 47)).alloc (.cells seekRow.toArray 47)) := (box_below w _).trans ((box_below _ _).mono (by simp))
  simp only [World.size_alloc] at T hd
  generalize hW2 : (w.alloc (.cells #[.int .i64 0, .nilFunc, .nilFunc] 47)).alloc (.cells seekRow.toArray 47) = W2 at *
  have hs2 : W2.heap.size = w.heap.size + 2 := by rw [← hW2]; simp
  clear hW2
  go_enter Tryz.func15, Tryz.ntmps15
  go_wp2_with (go_at_call 21; (with_reducible refine hd.mono ?_); rintro e w' ⟨rfl, hw⟩; rw [hw]; clear hw w' hd)
  go_loopw [8] (fun i V => ∃ j : Nat, j ≤ 1 ∧ i = .int .i64 (j : Nat) ∧ Below W2.heap.size W2 V) (fun i _ => 10 - (intOf i).toNat)
  case atStart => exact ⟨0, Nat.zero_le _, rfl, Below.refl _ _⟩
  case round =>
    obtain ⟨j, hj, rfl, BV⟩ := hrel
    obtain ⟨r0, r1, r2⟩ := T j (by omega)
    have lt := World.block_lt_of_cell? W2 _ r0
    have y0 := (BV.cell (p := ⟨w.heap.size + 1, j * 3, none⟩) lt).trans r0; have y1 := (BV.cell (p := ⟨w.heap.size + 1, j * 3 + 1, none⟩) lt).trans r1; have y2 := (BV.cell (p := ⟨w.heap.size + 1, j * 3 + 2, none⟩) lt).trans r2
    have bj : (j : Int) < 10 := by omega
    have tj : decide ((j : Int) < 10) = true := by simp; omega
    by_cases hlt : j < 1
    · have hne : (sOp j == 34) = false := by
        match j, hlt with
        | 0, _ => rfl
      generalize sOp j = OJ at *
      rcases sRow_kinds j (by omega) with ⟨e1, G, e2⟩ | ⟨e2, F, e1⟩ | ⟨F, G, e1, e2⟩
      all_goals
        rw [e1] at y1
        rw [e2] at y2
        clear e1 e2
        go_wp2
        go_roundw
        case rel => exact ⟨j + 1, by omega, by go_num, BV.trans ((box_below wr _).mono BV.size)⟩
        case measure => simp [intOf]; omega
    · obtain rfl : j = 1 := by omega
      rw [show sOp 1 = 34 from rfl] at y0
      rw [show sM 1 = .nilFunc from rfl] at y1
      rw [show sD 1 = .func (.func 39) #[] #[] from rfl] at y2
      have BV2 := BV.trans ((box_below wr (.cells #[.int .i64 34, .nilFunc, .func (.func 39) #[] #[]] 47)).mono BV.size)
      have RV := (BV2.block w.heap.size (by omega)).trans R
      obtain ⟨q0, q1, q2, z0, z1, z2⟩ := bx3Q RV
      have BB := B0.trans (BV2.mono (by omega))
      clear T R
      go_wp2
      (try simp only [Exit.inBlock, Exit.then])
      refine bodyPost_ret (v := .tuple #[.agg #[.int .i64 34, .nilFunc, .func (.func 39) #[] #[]], .bool true]) (by rw [results_cell_tmp rfl]; go_simp) rfl ?_
      exact ⟨rfl, below_set3Q _ _ _ _ _ _ BB (Nat.le_refl _)⟩

set_option maxHeartbeats 2000000 in
theorem rowOf_36 (w : World) :
    Calls Tryz.prog 15 #[.int .i64 36] w fun e w' => e = .returned (.tuple #[.agg #[.int .i64 36, .func (.func 41) #[] #[], .nilFunc], .bool true]) ∧ Below w.heap.size w w' := by
  have hd := rows_any (w.alloc (.cells #[.int .i64 0, .nilFunc, .nilFunc] 47))
  have T := seekTab (allocNew (w.alloc (.cells #[.int .i64 0, .nilFunc, .nilFunc] 47)) (.cells seekRow.toArray 47))
  have R := ((box_below (w.alloc (.cells #[.int .i64 0, .nilFunc, .nilFunc] 47)) (.cells seekRow.toArray 47)).block w.heap.size (by simp)).trans (allocNew w (.cells #[.int .i64 0, .nilFunc, .nilFunc] 47))
  have B0 : Below w.heap.size w ((w.alloc (.cells #[.int .i64 0, .nilFunc, .nilFunc] 47)).alloc (.cells seekRow.toArray 47)) := (box_below w _).trans ((box_below _ _).mono (by simp))
  simp only [World.size_alloc] at T hd
  generalize hW2 : (w.alloc (.cells #[.int .i64 0, .nilFunc, .nilFunc] 47)).alloc (.cells seekRow.toArray 47) = W2 at *
  have hs2 : W2.heap.size = w.heap.size + 2 := by rw [← hW2]; simp
  clear hW2
  go_enter Tryz.func15, Tryz.ntmps15
  go_wp2_with (go_at_call 21; (with_reducible refine hd.mono ?_); rintro e w' ⟨rfl, hw⟩; rw [hw]; clear hw w' hd)
  go_loopw [8] (fun i V => ∃ j : Nat, j ≤ 3 ∧ i = .int .i64 (j : Nat) ∧ Below W2.heap.size W2 V) (fun i _ => 10 - (intOf i).toNat)
  case atStart => exact ⟨0, Nat.zero_le _, rfl, Below.refl _ _⟩
  case round =>
    obtain ⟨j, hj, rfl, BV⟩ := hrel
    obtain ⟨r0, r1, r2⟩ := T j (by omega)
    have lt := World.block_lt_of_cell? W2 _ r0
    have y0 := (BV.cell (p := ⟨w.heap.size + 1, j * 3, none⟩) lt).trans r0; have y1 := (BV.cell (p := ⟨w.heap.size + 1, j * 3 + 1, none⟩) lt).trans r1; have y2 := (BV.cell (p := ⟨w.heap.size + 1, j * 3 + 2, none⟩) lt).trans r2
    have bj : (j : Int) < 10 := by omega
    have tj : decide ((j : Int) < 10) = true := by simp; omega
    by_cases hlt : j < 3
    · have hne : (sOp j == 36) = false := by
        match j, hlt with
        | 0, _ => rfl
        | 1, _ => rfl
        | 2, _ => rfl
      generalize sOp j = OJ at *
      rcases sRow_kinds j (by omega) with ⟨e1, G, e2⟩ | ⟨e2, F, e1⟩ | ⟨F, G, e1, e2⟩
      all_goals
        rw [e1] at y1
        rw [e2] at y2
        clear e1 e2
        go_wp2
        go_roundw
        case rel => exact ⟨j + 1, by omega, by go_num, BV.trans ((box_below wr _).mono BV.size)⟩
        case measure => simp [intOf]; omega
    · obtain rfl : j = 3 := by omega
      rw [show sOp 3 = 36 from rfl] at y0
      rw [show sM 3 = .func (.func 41) #[] #[] from rfl] at y1
      rw [show sD 3 = .nilFunc from rfl] at y2
      have BV2 := BV.trans ((box_below wr (.cells #[.int .i64 36, .func (.func 41) #[] #[], .nilFunc] 47)).mono BV.size)
      have RV := (BV2.block w.heap.size (by omega)).trans R
      obtain ⟨q0, q1, q2, z0, z1, z2⟩ := bx3Q RV
      have BB := B0.trans (BV2.mono (by omega))
      clear T R
      go_wp2
      (try simp only [Exit.inBlock, Exit.then])
      refine bodyPost_ret (v := .tuple #[.agg #[.int .i64 36, .func (.func 41) #[] #[], .nilFunc], .bool true]) (by rw [results_cell_tmp rfl]; go_simp) rfl ?_
      exact ⟨rfl, below_set3Q _ _ _ _ _ _ BB (Nat.le_refl _)⟩

set_option maxHeartbeats 2000000 in
theorem rowOf_37 (w : World) :
    Calls Tryz.prog 15 #[.int .i64 37] w fun e w' => e = .returned (.tuple #[.agg #[.int .i64 37, .func (.func 44) #[] #[], .func (.func 45) #[] #[]], .bool true]) ∧ Below w.heap.size w w' := by
  have hd := rows_any (w.alloc (.cells #[.int .i64 0, .nilFunc, .nilFunc] 47))
  have T := seekTab (allocNew (w.alloc (.cells #[.int .i64 0, .nilFunc, .nilFunc] 47)) (.cells seekRow.toArray 47))
  have R := ((box_below (w.alloc (.cells #[.int .i64 0, .nilFunc, .nilFunc] 47)) (.cells seekRow.toArray 47)).block w.heap.size (by simp)).trans (allocNew w (.cells #[.int .i64 0, .nilFunc, .nilFunc] 47))
  have B0 : Below w.heap.size w ((w.alloc (.cells #[.int .i64 0, .nilFunc, .nilFunc] 47)).alloc (.cells seekRow.toArray 47)) := (box_below w _).trans ((box_below _ _).mono (by simp))
  simp only [World.size_alloc] at T hd
  generalize hW2 : (w.alloc (.cells #[.int .i64 0, .nilFunc, .nilFunc] 47)).alloc (.cells seekRow.toArray 47) = W2 at *
  have hs2 : W2.heap.size = w.heap.size + 2 := by rw [← hW2]; simp
  clear hW2
  go_enter Tryz.func15, Tryz.ntmps15
  go_wp2_with (go_at_call 21; (with_reducible refine hd.mono ?_); rintro e w' ⟨rfl, hw⟩; rw [hw]; clear hw w' hd)
  go_loopw [8] (fun i V => ∃ j : Nat, j ≤ 6 ∧ i = .int .i64 (j : Nat) ∧ Below W2.heap.size W2 V) (fun i _ => 10 - (intOf i).toNat)
  case atStart => exact ⟨0, Nat.zero_le _, rfl, Below.refl _ _⟩
  case round =>
    obtain ⟨j, hj, rfl, BV⟩ := hrel
    obtain ⟨r0, r1, r2⟩ := T j (by omega)
    have lt := World.block_lt_of_cell? W2 _ r0
    have y0 := (BV.cell (p := ⟨w.heap.size + 1, j * 3, none⟩) lt).trans r0; have y1 := (BV.cell (p := ⟨w.heap.size + 1, j * 3 + 1, none⟩) lt).trans r1; have y2 := (BV.cell (p := ⟨w.heap.size + 1, j * 3 + 2, none⟩) lt).trans r2
    have bj : (j : Int) < 10 := by omega
    have tj : decide ((j : Int) < 10) = true := by simp; omega
    by_cases hlt : j < 6
    · have hne : (sOp j == 37) = false := by
        match j, hlt with
        | 0, _ => rfl
        | 1, _ => rfl
        | 2, _ => rfl
        | 3, _ => rfl
        | 4, _ => rfl
        | 5, _ => rfl
      generalize sOp j = OJ at *
      rcases sRow_kinds j (by omega) with ⟨e1, G, e2⟩ | ⟨e2, F, e1⟩ | ⟨F, G, e1, e2⟩
      all_goals
        rw [e1] at y1
        rw [e2] at y2
        clear e1 e2
        go_wp2
        go_roundw
        case rel => exact ⟨j + 1, by omega, by go_num, BV.trans ((box_below wr _).mono BV.size)⟩
        case measure => simp [intOf]; omega
    · obtain rfl : j = 6 := by omega
      rw [show sOp 6 = 37 from rfl] at y0
      rw [show sM 6 = .func (.func 44) #[] #[] from rfl] at y1
      rw [show sD 6 = .func (.func 45) #[] #[] from rfl] at y2
      have BV2 := BV.trans ((box_below wr (.cells #[.int .i64 37, .func (.func 44) #[] #[], .func (.func 45) #[] #[]] 47)).mono BV.size)
      have RV := (BV2.block w.heap.size (by omega)).trans R
      obtain ⟨q0, q1, q2, z0, z1, z2⟩ := bx3Q RV
      have BB := B0.trans (BV2.mono (by omega))
      clear T R
      go_wp2
      (try simp only [Exit.inBlock, Exit.then])
      refine bodyPost_ret (v := .tuple #[.agg #[.int .i64 37, .func (.func 44) #[] #[], .func (.func 45) #[] #[]], .bool true]) (by rw [results_cell_tmp rfl]; go_simp) rfl ?_
      exact ⟨rfl, below_set3Q _ _ _ _ _ _ BB (Nat.le_refl _)⟩

set_option maxHeartbeats 2000000 in
theorem rowOf_19 (w : World) :
    Calls Tryz.prog 15 #[.int .i64 19] w fun e w' => e = .returned (.tuple #[.agg #[.int .i64 19, .nilFunc, .func (.func 49) #[] #[]], .bool true]) ∧ Below w.heap.size w w' := by
  have hd := rows_any (w.alloc (.cells #[.int .i64 0, .nilFunc, .nilFunc] 47))
  have T := seekTab (allocNew (w.alloc (.cells #[.int .i64 0, .nilFunc, .nilFunc] 47)) (.cells seekRow.toArray 47))
  have R := ((box_below (w.alloc (.cells #[.int .i64 0, .nilFunc, .nilFunc] 47)) (.cells seekRow.toArray 47)).block w.heap.size (by simp)).trans (allocNew w (.cells #[.int .i64 0, .nilFunc, .nilFunc] 47))
  have B0 : Below w.heap.size w ((w.alloc (.cells #[.int .i64 0, .nilFunc, .nilFunc] 47)).alloc (.cells seekRow.toArray 47)) := (box_below w _).trans ((box_below _ _).mono (by simp))
  simp only [World.size_alloc] at T hd
  generalize hW2 : (w.alloc (.cells #[.int .i64 0, .nilFunc, .nilFunc] 47)).alloc (.cells seekRow.toArray 47) = W2 at *
  have hs2 : W2.heap.size = w.heap.size + 2 := by rw [← hW2]; simp
  clear hW2
  go_enter Tryz.func15, Tryz.ntmps15
  go_wp2_with (go_at_call 21; (with_reducible refine hd.mono ?_); rintro e w' ⟨rfl, hw⟩; rw [hw]; clear hw w' hd)
  go_loopw [8] (fun i V => ∃ j : Nat, j ≤ 9 ∧ i = .int .i64 (j : Nat) ∧ Below W2.heap.size W2 V) (fun i _ => 10 - (intOf i).toNat)
  case atStart => exact ⟨0, Nat.zero_le _, rfl, Below.refl _ _⟩
  case round =>
    obtain ⟨j, hj, rfl, BV⟩ := hrel
    obtain ⟨r0, r1, r2⟩ := T j (by omega)
    have lt := World.block_lt_of_cell? W2 _ r0
    have y0 := (BV.cell (p := ⟨w.heap.size + 1, j * 3, none⟩) lt).trans r0; have y1 := (BV.cell (p := ⟨w.heap.size + 1, j * 3 + 1, none⟩) lt).trans r1; have y2 := (BV.cell (p := ⟨w.heap.size + 1, j * 3 + 2, none⟩) lt).trans r2
    have bj : (j : Int) < 10 := by omega
    have tj : decide ((j : Int) < 10) = true := by simp; omega
    by_cases hlt : j < 9
    · have hne : (sOp j == 19) = false := by
        match j, hlt with
        | 0, _ => rfl
        | 1, _ => rfl
        | 2, _ => rfl
        | 3, _ => rfl
        | 4, _ => rfl
        | 5, _ => rfl
        | 6, _ => rfl
        | 7, _ => rfl
        | 8, _ => rfl
      generalize sOp j = OJ at *
      rcases sRow_kinds j (by omega) with ⟨e1, G, e2⟩ | ⟨e2, F, e1⟩ | ⟨F, G, e1, e2⟩
      all_goals
        rw [e1] at y1
        rw [e2] at y2
        clear e1 e2
        go_wp2
        go_roundw
        case rel => exact ⟨j + 1, by omega, by go_num, BV.trans ((box_below wr _).mono BV.size)⟩
        case measure => simp [intOf]; omega
    · obtain rfl : j = 9 := by omega
      rw [show sOp 9 = 19 from rfl] at y0
      rw [show sM 9 = .nilFunc from rfl] at y1
      rw [show sD 9 = .func (.func 49) #[] #[] from rfl] at y2
      have BV2 := BV.trans ((box_below wr (.cells #[.int .i64 19, .nilFunc, .func (.func 49) #[] #[]] 47)).mono BV.size)
      have RV := (BV2.block w.heap.size (by omega)).trans R
      obtain ⟨q0, q1, q2, z0, z1, z2⟩ := bx3Q RV
      have BB := B0.trans (BV2.mono (by omega))
      clear T R
      go_wp2
      (try simp only [Exit.inBlock, Exit.then])
      refine bodyPost_ret (v := .tuple #[.agg #[.int .i64 19, .nilFunc, .func (.func 49) #[] #[]], .bool true]) (by rw [results_cell_tmp rfl]; go_simp) rfl ?_
      exact ⟨rfl, below_set3Q _ _ _ _ _ _ BB (Nat.le_refl _)⟩
end Go.Proofs.YtmepcenbaohcoaaGreat
