
/- Contracts of package digit: the table. -/

import Derived.Test.YtjnlkdeiccllgaaZL
import Derived.Laws.EntriesVeiled


namespace Go.Proofs.Ytjnlkdeiccllgaa

open Go.RowKit

set_option linter.unusedVariables false

def zOp (k : Nat) : Int := [34, 43, 22, 39, 40].getD k 0
def zA (k : Nat) : Int := [1, 1, 0, 1, 8].getD k 0
def zM (k : Nat) : Value := [.func (.func 22) #[] #[], .func (.func 23) #[] #[], .nilFunc, .func (.func 25) #[] #[], .func (.func 27) #[] #[]].getD k .nilFunc
def zB (k : Nat) : Int := [0, 0, 8, 1, 0].getD k 0
def zD (k : Nat) : Value := [.nilFunc, .nilFunc, .func (.func 24) #[] #[], .func (.func 26) #[] #[], .func (.func 28) #[] #[]].getD k .nilFunc
def digRow : List Value := [.int .i64 34, .int .i64 1, .func (.func 22) #[] #[], .int .i64 0, .nilFunc, .int .i64 43, .int .i64 1, .func (.func 23) #[] #[], .int .i64 0, .nilFunc, .int .i64 22, .int .i64 0, .nilFunc, .int .i64 8, .func (.func 24) #[] #[], .int .i64 39, .int .i64 1, .func (.func 25) #[] #[], .int .i64 1, .func (.func 26) #[] #[], .int .i64 40, .int .i64 8, .func (.func 27) #[] #[], .int .i64 0, .func (.func 28) #[] #[]]
theorem digRow_at (l : List Value) (hl : l = digRow) : ∀ k : Nat, k < 5 → l[k * 5]? = some (.int .i64 (zOp k)) ∧ l[k * 5 + 1]? = some (.int .i64 (zA k)) ∧ l[k * 5 + 2]? = some (zM k) ∧ l[k * 5 + 3]? = some (.int .i64 (zB k)) ∧ l[k * 5 + 4]? = some (zD k) := by
  subst hl
  intro k hk
  match k, hk with
  | 0, _ => exact ⟨rfl, rfl, rfl, rfl, rfl⟩
  | 1, _ => exact ⟨rfl, rfl, rfl, rfl, rfl⟩
  | 2, _ => exact ⟨rfl, rfl, rfl, rfl, rfl⟩
  | 3, _ => exact ⟨rfl, rfl, rfl, rfl, rfl⟩
  | 4, _ => exact ⟨rfl, rfl, rfl, rfl, rfl⟩

theorem digTab {W : World} {g : Nat} (h : W.heap[g]? = some (.cells digRow.toArray 46 (0, 0))) : ∀ k : Nat, k < 5 → W.cell? ⟨g, k * 5, none⟩ = some (.int .i64 (zOp k)) ∧ W.cell? ⟨g, k * 5 + 1, none⟩ = some (.int .i64 (zA k)) ∧ W.cell? ⟨g, k * 5 + 2, none⟩ = some (zM k) ∧ W.cell? ⟨g, k * 5 + 3, none⟩ = some (.int .i64 (zB k)) ∧ W.cell? ⟨g, k * 5 + 4, none⟩ = some (zD k) := fun k hk =>
  have tab := digRow_at _ rfl
  ⟨(cell_of_row W g _ _ _ (0, 0) h).trans (by simpa using (tab k hk).1), (cell_of_row W g _ _ _ (0, 0) h).trans (by simpa using (tab k hk).2.1), (cell_of_row W g _ _ _ (0, 0) h).trans (by simpa using (tab k hk).2.2.1), (cell_of_row W g _ _ _ (0, 0) h).trans (by simpa using (tab k hk).2.2.2.1), (cell_of_row W g _ _ _ (0, 0) h).trans (by simpa using (tab k hk).2.2.2.2)⟩
set_option maxRecDepth 20000 in
theorem rows_any (w : World) : Calls Try.prog 21 #[] w fun e w' => e = .returned (.slice (some ⟨w.heap.size, 0, none⟩) 5 5) ∧ w' = w.alloc (.cells digRow.toArray 46) := by
  go_enter Try.func21, Try.ntmps21
  go_wp2
  go_ret
  exact ⟨rfl, rfl⟩
theorem bx5 {W : World} {g : Nat} {a b c d e : Value} {t : TypeId} (h : W.heap[g]? = some (.cells #[a, b, c, d, e] t (0, 0))) :
    W.cell? ⟨g, 0, none⟩ = some a ∧ W.cell? ⟨g, 1, none⟩ = some b ∧ W.cell? ⟨g, 2, none⟩ = some c ∧ W.cell? ⟨g, 3, none⟩ = some d ∧ W.cell? ⟨g, 4, none⟩ = some e ∧ W.frozen? ⟨g, 0, none⟩ = false ∧ W.frozen? ⟨g, 1, none⟩ = false ∧ W.frozen? ⟨g, 2, none⟩ = false ∧ W.frozen? ⟨g, 3, none⟩ = false ∧ W.frozen? ⟨g, 4, none⟩ = false :=
  ⟨(cell_of_row W g 0 _ t (0, 0) h).trans rfl, (cell_of_row W g 1 _ t (0, 0) h).trans rfl, (cell_of_row W g 2 _ t (0, 0) h).trans rfl, (cell_of_row W g 3 _ t (0, 0) h).trans rfl, (cell_of_row W g 4 _ t (0, 0) h).trans rfl, frozen_of_row W g 0 _ t h, frozen_of_row W g 1 _ t h, frozen_of_row W g 2 _ t h, frozen_of_row W g 3 _ t h, frozen_of_row W g 4 _ t h⟩
theorem below_set5 {a W : World} {B b : Nat} (o1 o2 o3 o4 o5 : Nat) (v1 v2 v3 v4 v5 : Value) (h : Below B a W) (hb : B ≤ b) : Below B a (((((W.setCell ⟨b, o1, none⟩ v1).setCell ⟨b, o2, none⟩ v2).setCell ⟨b, o3, none⟩ v3).setCell ⟨b, o4, none⟩ v4).setCell ⟨b, o5, none⟩ v5) :=
  ((((h.setCell (p := ⟨b, o1, none⟩) hb v1).setCell (p := ⟨b, o2, none⟩) hb v2).setCell (p := ⟨b, o3, none⟩) hb v3).setCell (p := ⟨b, o4, none⟩) hb v4).setCell (p := ⟨b, o5, none⟩) hb v5
theorem zRow_kinds (k : Nat) (hk : k < 5) : (zM k = .nilFunc ∧ ∃ G, zD k = .func (.func G) #[] #[]) ∨ (zD k = .nilFunc ∧ ∃ F, zM k = .func (.func F) #[] #[]) ∨ ∃ F G, zM k = .func (.func F) #[] #[] ∧ zD k = .func (.func G) #[] #[] := by
  match k, hk with
  | 0, _ => exact .inr (.inl ⟨rfl, _, rfl⟩)
  | 1, _ => exact .inr (.inl ⟨rfl, _, rfl⟩)
  | 2, _ => exact .inl ⟨rfl, _, rfl⟩
  | 3, _ => exact .inr (.inr ⟨_, _, rfl, rfl⟩)
  | 4, _ => exact .inr (.inr ⟨_, _, rfl, rfl⟩)


set_option maxHeartbeats 2000000 in
theorem rowOf_34 (w : World) :
    Calls Try.prog 18 #[.int .i64 34] w fun e w' => e = .returned (.tuple #[.agg #[.int .i64 34, .int .i64 1, .func (.func 22) #[] #[], .int .i64 0, .nilFunc], .bool true]) ∧ Below w.heap.size w w' := by
  have hd := rows_any (w.alloc (.cells #[.int .i64 0, .int .i64 0, .nilFunc, .int .i64 0, .nilFunc] 46))
  have T := digTab (allocNew (w.alloc (.cells #[.int .i64 0, .int .i64 0, .nilFunc, .int .i64 0, .nilFunc] 46)) (.cells digRow.toArray 46))
  have R := ((box_below (w.alloc (.cells #[.int .i64 0, .int .i64 0, .nilFunc, .int .i64 0, .nilFunc] 46)) (.cells digRow.toArray 46)).block w.heap.size (by simp)).trans (allocNew w (.cells #[.int .i64 0, .int .i64 0, .nilFunc, .int .i64 0, .nilFunc] 46))
  have B0 : Below w.heap.size w ((w.alloc (.cells #[.int .i64 0, .int .i64 0, .nilFunc, .int .i64 0, .nilFunc] 46)).alloc (.cells digRow.toArray 46)) := (box_below w _).trans ((box_below _ _).mono (by simp))
  simp only [World.size_alloc] at T hd
  generalize hW2 : (w.alloc (.cells #[.int .i64 0, .int .i64 0, .nilFunc, .int .i64 0, .nilFunc] 46)).alloc (.cells digRow.toArray 46) = W2 at *
  have hs2 : W2.heap.size = w.heap.size + 2 := by rw [← hW2]; simp
  clear hW2
  go_enter Try.func18, Try.ntmps18
  go_wp2_with (go_at_call 21; (with_reducible refine hd.mono ?_); rintro e w' ⟨rfl, hw⟩; rw [hw]; clear hw w' hd)
  go_loopw [8] (fun i V => ∃ j : Nat, j ≤ 0 ∧ i = .int .i64 (j : Nat) ∧ Below W2.heap.size W2 V) (fun i _ => 5 - (intOf i).toNat)
  case atStart => exact ⟨0, Nat.zero_le _, rfl, Below.refl _ _⟩
  case round =>
    obtain ⟨j, hj, rfl, BV⟩ := hrel
    obtain ⟨r0, r1, r2, r3, r4⟩ := T j (by omega)
    have lt := World.block_lt_of_cell? W2 _ r0
    have y0 := (BV.cell (p := ⟨w.heap.size + 1, j * 5, none⟩) lt).trans r0; have y1 := (BV.cell (p := ⟨w.heap.size + 1, j * 5 + 1, none⟩) lt).trans r1; have y2 := (BV.cell (p := ⟨w.heap.size + 1, j * 5 + 2, none⟩) lt).trans r2; have y3 := (BV.cell (p := ⟨w.heap.size + 1, j * 5 + 3, none⟩) lt).trans r3; have y4 := (BV.cell (p := ⟨w.heap.size + 1, j * 5 + 4, none⟩) lt).trans r4
    clear r0 r1 r2 r3 r4
    have bj : (j : Int) < 5 := by omega
    have tj : decide ((j : Int) < 5) = true := by simp; omega
    by_cases hlt : j < 0
    · exact absurd hlt (Nat.not_lt_zero _)
    · obtain rfl : j = 0 := by omega
      rw [show zOp 0 = 34 from rfl] at y0
      rw [show zA 0 = 1 from rfl] at y1
      rw [show zM 0 = .func (.func 22) #[] #[] from rfl] at y2
      rw [show zB 0 = 0 from rfl] at y3
      rw [show zD 0 = .nilFunc from rfl] at y4
      have BV2 := BV.trans ((box_below wr (.cells #[.int .i64 34, .int .i64 1, .func (.func 22) #[] #[], .int .i64 0, .nilFunc] 46)).mono BV.size)
      have RV := (BV2.block w.heap.size (by omega)).trans R
      obtain ⟨q0, q1, q2, q3, q4, z0, z1, z2, z3, z4⟩ := bx5 RV
      have BB := B0.trans (BV2.mono (by omega))
      clear T R
      go_wp2
      (try simp only [Exit.inBlock, Exit.then])
      refine bodyPost_ret (v := .tuple #[.agg #[.int .i64 34, .int .i64 1, .func (.func 22) #[] #[], .int .i64 0, .nilFunc], .bool true]) (by rw [results_cell_tmp rfl]; go_simp) rfl ?_
      exact ⟨rfl, below_set5 _ _ _ _ _ _ _ _ _ _ BB (Nat.le_refl _)⟩

set_option maxHeartbeats 2000000 in
theorem rowOf_43 (w : World) :
    Calls Try.prog 18 #[.int .i64 43] w fun e w' => e = .returned (.tuple #[.agg #[.int .i64 43, .int .i64 1, .func (.func 23) #[] #[], .int .i64 0, .nilFunc], .bool true]) ∧ Below w.heap.size w w' := by
  have hd := rows_any (w.alloc (.cells #[.int .i64 0, .int .i64 0, .nilFunc, .int .i64 0, .nilFunc] 46))
  have T := digTab (allocNew (w.alloc (.cells #[.int .i64 0, .int .i64 0, .nilFunc, .int .i64 0, .nilFunc] 46)) (.cells digRow.toArray 46))
  have R := ((box_below (w.alloc (.cells #[.int .i64 0, .int .i64 0, .nilFunc, .int .i64 0, .nilFunc] 46)) (.cells digRow.toArray 46)).block w.heap.size (by simp)).trans (allocNew w (.cells #[.int .i64 0, .int .i64 0, .nilFunc, .int .i64 0, .nilFunc] 46))
  have B0 : Below w.heap.size w ((w.alloc (.cells #[.int .i64 0, .int .i64 0, .nilFunc, .int .i64 0, .nilFunc] 46)).alloc (.cells digRow.toArray 46)) := (box_below w _).trans ((box_below _ _).mono (by simp))
  simp only [World.size_alloc] at T hd
  generalize hW2 : (w.alloc (.cells #[.int .i64 0, .int .i64 0, .nilFunc, .int .i64 0, .nilFunc] 46)).alloc (.cells digRow.toArray 46) = W2 at *
  have hs2 : W2.heap.size = w.heap.size + 2 := by rw [← hW2]; simp
  clear hW2
  go_enter Try.func18, Try.ntmps18
  go_wp2_with (go_at_call 21; (with_reducible refine hd.mono ?_); rintro e w' ⟨rfl, hw⟩; rw [hw]; clear hw w' hd)
  go_loopw [8] (fun i V => ∃ j : Nat, j ≤ 1 ∧ i = .int .i64 (j : Nat) ∧ Below W2.heap.size W2 V) (fun i _ => 5 - (intOf i).toNat)
  case atStart => exact ⟨0, Nat.zero_le _, rfl, Below.refl _ _⟩
  case round =>
    obtain ⟨j, hj, rfl, BV⟩ := hrel
    obtain ⟨r0, r1, r2, r3, r4⟩ := T j (by omega)
    have lt := World.block_lt_of_cell? W2 _ r0
    have y0 := (BV.cell (p := ⟨w.heap.size + 1, j * 5, none⟩) lt).trans r0; have y1 := (BV.cell (p := ⟨w.heap.size + 1, j * 5 + 1, none⟩) lt).trans r1; have y2 := (BV.cell (p := ⟨w.heap.size + 1, j * 5 + 2, none⟩) lt).trans r2; have y3 := (BV.cell (p := ⟨w.heap.size + 1, j * 5 + 3, none⟩) lt).trans r3; have y4 := (BV.cell (p := ⟨w.heap.size + 1, j * 5 + 4, none⟩) lt).trans r4
    clear r0 r1 r2 r3 r4
    have bj : (j : Int) < 5 := by omega
    have tj : decide ((j : Int) < 5) = true := by simp; omega
    by_cases hlt : j < 1
    · have hne : (zOp j == 43) = false := by
        match j, hlt with
        | 0, _ => rfl
      generalize zOp j = OJ at *
      generalize zA j = AJ at *
      generalize zB j = BJ at *
      rcases zRow_kinds j (by omega) with ⟨e1, G, e2⟩ | ⟨e2, F, e1⟩ | ⟨F, G, e1, e2⟩
      all_goals
        rw [e1] at y2
        rw [e2] at y4
        clear e1 e2
        go_wp2
        go_roundw
        case rel => exact ⟨j + 1, by omega, by go_num, BV.trans ((box_below wr _).mono BV.size)⟩
        case measure => simp [intOf]; omega
    · obtain rfl : j = 1 := by omega
      rw [show zOp 1 = 43 from rfl] at y0
      rw [show zA 1 = 1 from rfl] at y1
      rw [show zM 1 = .func (.func 23) #[] #[] from rfl] at y2
      rw [show zB 1 = 0 from rfl] at y3
      rw [show zD 1 = .nilFunc from rfl] at y4
      have BV2 := BV.trans ((box_below wr (.cells #[.int .i64 43, .int .i64 1, .func (.func 23) #[] #[], .int .i64 0, .nilFunc] 46)).mono BV.size)
      have RV := (BV2.block w.heap.size (by omega)).trans R
      obtain ⟨q0, q1, q2, q3, q4, z0, z1, z2, z3, z4⟩ := bx5 RV
      have BB := B0.trans (BV2.mono (by omega))
      clear T R
      go_wp2
      (try simp only [Exit.inBlock, Exit.then])
      refine bodyPost_ret (v := .tuple #[.agg #[.int .i64 43, .int .i64 1, .func (.func 23) #[] #[], .int .i64 0, .nilFunc], .bool true]) (by rw [results_cell_tmp rfl]; go_simp) rfl ?_
      exact ⟨rfl, below_set5 _ _ _ _ _ _ _ _ _ _ BB (Nat.le_refl _)⟩

set_option maxHeartbeats 2000000 in
theorem rowOf_22 (w : World) :
    Calls Try.prog 18 #[.int .i64 22] w fun e w' => e = .returned (.tuple #[.agg #[.int .i64 22, .int .i64 0, .nilFunc, .int .i64 8, .func (.func 24) #[] #[]], .bool true]) ∧ Below w.heap.size w w' := by
  have hd := rows_any (w.alloc (.cells #[.int .i64 0, .int .i64 0, .nilFunc, .int .i64 0, .nilFunc] 46))
  have T := digTab (allocNew (w.alloc (.cells #[.int .i64 0, .int .i64 0, .nilFunc, .int .i64 0, .nilFunc] 46)) (.cells digRow.toArray 46))
  have R := ((box_below (w.alloc (.cells #[.int .i64 0, .int .i64 0, .nilFunc, .int .i64 0, .nilFunc] 46)) (.cells digRow.toArray 46)).block w.heap.size (by simp)).trans (allocNew w (.cells #[.int .i64 0, .int .i64 0, .nilFunc, .int .i64 0, .nilFunc] 46))
  have B0 : Below w.heap.size w ((w.alloc (.cells #[.int .i64 0, .int .i64 0, .nilFunc, .int .i64 0, .nilFunc] 46)).alloc (.cells digRow.toArray 46)) := (box_below w _).trans ((box_below _ _).mono (by simp))
  simp only [World.size_alloc] at T hd
  generalize hW2 : (w.alloc (.cells #[.int .i64 0, .int .i64 0, .nilFunc, .int .i64 0, .nilFunc] 46)).alloc (.cells digRow.toArray 46) = W2 at *
  have hs2 : W2.heap.size = w.heap.size + 2 := by rw [← hW2]; simp
  clear hW2
  go_enter Try.func18, Try.ntmps18
  go_wp2_with (go_at_call 21; (with_reducible refine hd.mono ?_); rintro e w' ⟨rfl, hw⟩; rw [hw]; clear hw w' hd)
  go_loopw [8] (fun i V => ∃ j : Nat, j ≤ 2 ∧ i = .int .i64 (j : Nat) ∧ Below W2.heap.size W2 V) (fun i _ => 5 - (intOf i).toNat)
  case atStart => exact ⟨0, Nat.zero_le _, rfl, Below.refl _ _⟩
  case round =>
    obtain ⟨j, hj, rfl, BV⟩ := hrel
    obtain ⟨r0, r1, r2, r3, r4⟩ := T j (by omega)
    have lt := World.block_lt_of_cell? W2 _ r0
    have y0 := (BV.cell (p := ⟨w.heap.size + 1, j * 5, none⟩) lt).trans r0; have y1 := (BV.cell (p := ⟨w.heap.size + 1, j * 5 + 1, none⟩) lt).trans r1; have y2 := (BV.cell (p := ⟨w.heap.size + 1, j * 5 + 2, none⟩) lt).trans r2; have y3 := (BV.cell (p := ⟨w.heap.size + 1, j * 5 + 3, none⟩) lt).trans r3; have y4 := (BV.cell (p := ⟨w.heap.size + 1, j * 5 + 4, none⟩) lt).trans r4
    clear r0 r1 r2 r3 r4
    have bj : (j : Int) < 5 := by omega
    have tj : decide ((j : Int) < 5) = true := by simp; omega
    by_cases hlt : j < 2
    · have hne : (zOp j == 22) = false := by
        match j, hlt with
        | 0, _ => rfl
        | 1, _ => rfl
      generalize zOp j = OJ at *
      generalize zA j = AJ at *
      generalize zB j = BJ at *
      rcases zRow_kinds j (by omega) with ⟨e1, G, e2⟩ | ⟨e2, F, e1⟩ | ⟨F, G, e1, e2⟩
      all_goals
        rw [e1] at y2
        rw [e2] at y4
        clear e1 e2
        go_wp2
        go_roundw
        case rel => exact ⟨j + 1, by omega, by go_num, BV.trans ((box_below wr _).mono BV.size)⟩
        case measure => simp [intOf]; omega
    · obtain rfl : j = 2 := by omega
      rw [show zOp 2 = 22 from rfl] at y0
      rw [show zA 2 = 0 from rfl] at y1
      rw [show zM 2 = .nilFunc from rfl] at y2
      rw [show zB 2 = 8 from rfl] at y3
      rw [show zD 2 = .func (.func 24) #[] #[] from rfl] at y4
      have BV2 := BV.trans ((box_below wr (.cells #[.int .i64 22, .int .i64 0, .nilFunc, .int .i64 8, .func (.func 24) #[] #[]] 46)).mono BV.size)
      have RV := (BV2.block w.heap.size (by omega)).trans R
      obtain ⟨q0, q1, q2, q3, q4, z0, z1, z2, z3, z4⟩ := bx5 RV
      have BB := B0.trans (BV2.mono (by omega))
      clear T R
      go_wp2
      (try simp only [Exit.inBlock, Exit.then])
      refine bodyPost_ret (v := .tuple #[.agg #[.int .i64 22, .int .i64 0, .nilFunc, .int .i64 8, .func (.func 24) #[] #[]], .bool true]) (by rw [results_cell_tmp rfl]; go_simp) rfl ?_
      exact ⟨rfl, below_set5 _ _ _ _ _ _ _ _ _ _ BB (Nat.le_refl _)⟩

set_option maxHeartbeats 2000000 in
theorem rowOf_39 (w : World) :
    Calls Try.prog 18 #[.int .i64 39] w fun e w' => e = .returned (.tuple #[.agg #[.int .i64 39, .int .i64 1, .func (.func 25) #[] #[], .int .i64 1, .func (.func 26) #[] #[]], .bool true]) ∧ Below w.heap.size w w' := by
  have hd := rows_any (w.alloc (.cells #[.int .i64 0, .int .i64 0, .nilFunc, .int .i64 0, .nilFunc] 46))
  have T := digTab (allocNew (w.alloc (.cells #[.int .i64 0, .int .i64 0, .nilFunc, .int .i64 0, .nilFunc] 46)) (.cells digRow.toArray 46))
  have R := ((box_below (w.alloc (.cells #[.int .i64 0, .int .i64 0, .nilFunc, .int .i64 0, .nilFunc] 46)) (.cells digRow.toArray 46)).block w.heap.size (by simp)).trans (allocNew w (.cells #[.int .i64 0, .int .i64 0, .nilFunc, .int .i64 0, .nilFunc] 46))
  have B0 : Below w.heap.size w ((w.alloc (.cells #[.int .i64 0, .int .i64 0, .nilFunc, .int .i64 0, .nilFunc] 46)).alloc (.cells digRow.toArray 46)) := (box_below w _).trans ((box_below _ _).mono (by simp))
  simp only [World.size_alloc] at T hd
  generalize hW2 : (w.alloc (.cells #[.int .i64 0, .int .i64 0, .nilFunc, .int .i64 0, .nilFunc] 46)).alloc (.cells digRow.toArray 46) = W2 at *
  have hs2 : W2.heap.size = w.heap.size + 2 := by rw [← hW2]; simp
  clear hW2
  go_enter Try.func18, Try.ntmps18
  go_wp2_with (go_at_call 21; (with_reducible refine hd.mono ?_); rintro e w' ⟨rfl, hw⟩; rw [hw]; clear hw w' hd)
  go_loopw [8] (fun i V => ∃ j : Nat, j ≤ 3 ∧ i = .int .i64 (j : Nat) ∧ Below W2.heap.size W2 V) (fun i _ => 5 - (intOf i).toNat)
  case atStart => exact ⟨0, Nat.zero_le _, rfl, Below.refl _ _⟩
  case round =>
    obtain ⟨j, hj, rfl, BV⟩ := hrel
    obtain ⟨r0, r1, r2, r3, r4⟩ := T j (by omega)
    have lt := World.block_lt_of_cell? W2 _ r0
    have y0 := (BV.cell (p := ⟨w.heap.size + 1, j * 5, none⟩) lt).trans r0; have y1 := (BV.cell (p := ⟨w.heap.size + 1, j * 5 + 1, none⟩) lt).trans r1; have y2 := (BV.cell (p := ⟨w.heap.size + 1, j * 5 + 2, none⟩) lt).trans r2; have y3 := (BV.cell (p := ⟨w.heap.size + 1, j * 5 + 3, none⟩) lt).trans r3; have y4 := (BV.cell (p := ⟨w.heap.size + 1, j * 5 + 4, none⟩) lt).trans r4
    clear r0 r1 r2 r3 r4
    have bj : (j : Int) < 5 := by omega
    have tj : decide ((j : Int) < 5) = true := by simp; omega
    by_cases hlt : j < 3
    · have hne : (zOp j == 39) = false := by
        match j, hlt with
        | 0, _ => rfl
        | 1, _ => rfl
        | 2, _ => rfl
      generalize zOp j = OJ at *
      generalize zA j = AJ at *
      generalize zB j = BJ at *
      rcases zRow_kinds j (by omega) with ⟨e1, G, e2⟩ | ⟨e2, F, e1⟩ | ⟨F, G, e1, e2⟩
      all_goals
        rw [e1] at y2
        rw [e2] at y4
        clear e1 e2
        go_wp2
        go_roundw
        case rel => exact ⟨j + 1, by omega, by go_num, BV.trans ((box_below wr _).mono BV.size)⟩
        case measure => simp [intOf]; omega
    · obtain rfl : j = 3 := by omega
      rw [show zOp 3 = 39 from rfl] at y0
      rw [show zA 3 = 1 from rfl] at y1
      rw [show zM 3 = .func (.func 25) #[] #[] from rfl] at y2
      rw [show zB 3 = 1 from rfl] at y3
      rw [show zD 3 = .func (.func 26) #[] #[] from rfl] at y4
      have BV2 := BV.trans ((box_below wr (.cells #[.int .i64 39, .int .i64 1, .func (.func 25) #[] #[], .int .i64 1, .func (.func 26) #[] #[]] 46)).mono BV.size)
      have RV := (BV2.block w.heap.size (by omega)).trans R
      obtain ⟨q0, q1, q2, q3, q4, z0, z1, z2, z3, z4⟩ := bx5 RV
      have BB := B0.trans (BV2.mono (by omega))
      clear T R
      go_wp2
      (try simp only [Exit.inBlock, Exit.then])
      refine bodyPost_ret (v := .tuple #[.agg #[.int .i64 39, .int .i64 1, .func (.func 25) #[] #[], .int .i64 1, .func (.func 26) #[] #[]], .bool true]) (by rw [results_cell_tmp rfl]; go_simp) rfl ?_
      exact ⟨rfl, below_set5 _ _ _ _ _ _ _ _ _ _ BB (Nat.le_refl _)⟩

set_option maxHeartbeats 2000000 in
theorem rowOf_40 (w : World) :
    Calls Try.prog 18 #[.int .i64 40] w fun e w' => e = .returned (.tuple #[.agg #[.int .i64 40, .int .i64 8, .func (.func 27) #[] #[], .int .i64 0, .func (.func 28) #[] #[]], .bool true]) ∧ Below w.heap.size w w' := by
  have hd := rows_any (w.alloc (.cells #[.int .i64 0, .int .i64 0, .nilFunc, .int .i64 0, .nilFunc] 46))
  have T := digTab (allocNew (w.alloc (.cells #[.int .i64 0, .int .i64 0, .nilFunc, .int .i64 0, .nilFunc] 46)) (.cells digRow.toArray 46))
  have R := ((box_below (w.alloc (.cells #[.int .i64 0, .int .i64 0, .nilFunc, .int .i64 0, .nilFunc] 46)) (.cells digRow.toArray 46)).block w.heap.size (by simp)).trans (allocNew w (.cells #[.int .i64 0, .int .i64 0, .nilFunc, .int .i64 0, .nilFunc] 46))
  have B0 : Below w.heap.size w ((w.alloc (.cells #[.int .i64 0, .int .i64 0, .nilFunc, .int .i64 0, .nilFunc] 46)).alloc (.cells digRow.toArray 46)) := (box_below w _).trans ((box_below _ _).mono (by simp))
  simp only [World.size_alloc] at T hd
  generalize hW2 : (w.alloc (.cells #[.int .i64 0, .int .i64 0, .nilFunc, .int .i64 0, .nilFunc] 46)).alloc (.cells digRow.toArray 46) = W2 at *
  have hs2 : W2.heap.size = w.heap.size + 2 := by rw [← hW2]; simp
  clear hW2
  go_enter Try.func18, Try.ntmps18
  go_wp2_with (go_at_call 21; (with_reducible refine hd.mono ?_); rintro e w' ⟨rfl, hw⟩; rw [hw]; clear hw w' hd)
  go_loopw [8] (fun i V => ∃ j : Nat, j ≤ 4 ∧ i = .int .i64 (j : Nat) ∧ Below W2.heap.size W2 V) (fun i _ => 5 - (intOf i).toNat)
  case atStart => exact ⟨0, Nat.zero_le _, rfl, Below.refl _ _⟩
  case round =>
    obtain ⟨j, hj, rfl, BV⟩ := hrel
    obtain ⟨r0, r1, r2, r3, r4⟩ := T j (by omega)
    have lt := World.block_lt_of_cell? W2 _ r0
    have y0 := (BV.cell (p := ⟨w.heap.size + 1, j * 5, none⟩) lt).trans r0; have y1 := (BV.cell (p := ⟨w.heap.size + 1, j * 5 + 1, none⟩) lt).trans r1; have y2 := (BV.cell (p := ⟨w.heap.size + 1, j * 5 + 2, none⟩) lt).trans r2; have y3 := (BV.cell (p := ⟨w.heap.size + 1, j * 5 + 3, none⟩) lt).trans r3; have y4 := (BV.cell (p := ⟨w.heap.size + 1, j * 5 + 4, none⟩) lt).trans r4
    clear r0 r1 r2 r3 r4
    have bj : (j : Int) < 5 := by omega
    have tj : decide ((j : Int) < 5) = true := by simp; omega
    by_cases hlt : j < 4
    · have hne : (zOp j == 40) = false := by
        match j, hlt with
        | 0, _ => rfl
        | 1, _ => rfl
        | 2, _ => rfl
        | 3, _ => rfl
      generalize zOp j = OJ at *
      generalize zA j = AJ at *
      generalize zB j = BJ at *
      rcases zRow_kinds j (by omega) with ⟨e1, G, e2⟩ | ⟨e2, F, e1⟩ | ⟨F, G, e1, e2⟩
      all_goals
        rw [e1] at y2
        rw [e2] at y4
        clear e1 e2
        go_wp2
        go_roundw
        case rel => exact ⟨j + 1, by omega, by go_num, BV.trans ((box_below wr _).mono BV.size)⟩
        case measure => simp [intOf]; omega
    · obtain rfl : j = 4 := by omega
      rw [show zOp 4 = 40 from rfl] at y0
      rw [show zA 4 = 8 from rfl] at y1
      rw [show zM 4 = .func (.func 27) #[] #[] from rfl] at y2
      rw [show zB 4 = 0 from rfl] at y3
      rw [show zD 4 = .func (.func 28) #[] #[] from rfl] at y4
      have BV2 := BV.trans ((box_below wr (.cells #[.int .i64 40, .int .i64 8, .func (.func 27) #[] #[], .int .i64 0, .func (.func 28) #[] #[]] 46)).mono BV.size)
      have RV := (BV2.block w.heap.size (by omega)).trans R
      obtain ⟨q0, q1, q2, q3, q4, z0, z1, z2, z3, z4⟩ := bx5 RV
      have BB := B0.trans (BV2.mono (by omega))
      clear T R
      go_wp2
      (try simp only [Exit.inBlock, Exit.then])
      refine bodyPost_ret (v := .tuple #[.agg #[.int .i64 40, .int .i64 8, .func (.func 27) #[] #[], .int .i64 0, .func (.func 28) #[] #[]], .bool true]) (by rw [results_cell_tmp rfl]; go_simp) rfl ?_
      exact ⟨rfl, below_set5 _ _ _ _ _ _ _ _ _ _ BB (Nat.le_refl _)⟩
end Go.Proofs.Ytjnlkdeiccllgaa
