
/- Contracts of package seek: Monad and Dyad. -/

import Derived.Test.YtelcagfaflpolaaGreatBase
import Derived.Test.YtelcagfaflpolaaGreatA11
import Derived.Lib.JoinLaws
import Derived.Deep.DeepCutAuto
import Derived.Deep.RegionHeld3
import Derived.RegionTactic
import Derived.Maps.AppendAt
import Derived.OrdersHeld
import Derived.Laws.EntriesVeiled

namespace Go.Proofs.YtelcagfaflpolaaGreat

set_option linter.unusedVariables false

/-- x stands ahead of y: it is before, or the same with the lesser place. -/
abbrev lx (c : Int → Int → Int) (x y : Int) : Prop := c x y < 0 ∨ (c x y = 0 ∧ x < y)
/- The search by halves. -/

end Go.Proofs.YtelcagfaflpolaaGreat







namespace Go.Proofs.YtelcagfaflpolaaGreat

open Go.RowKit

set_option linter.unusedVariables false

theorem truth_any (b : Bool) (w : World) : Calls Tryz.prog 170 #[.bool b] w fun e w' => e = .returned (.int .i64 (if b then 1 else 0)) ∧ w' = w := by
  cases b
  · go_enter Tryz.func170, Tryz.ntmps170
    go_wp2
    go_ret
    exact ⟨rfl, rfl⟩
  · go_enter Tryz.func170, Tryz.ntmps170
    go_wp2
    go_ret
    exact ⟨rfl, rfl⟩
end Go.Proofs.YtelcagfaflpolaaGreat





namespace Go.Proofs.YtelcagfaflpolaaGreat

open Go.RowKit

set_option linter.unusedVariables false

/-- Two arrays in their boxes, and a box for the answer. -/
structure DuQ (w W : World) (so : Option Addr) (sn sc : Nat) (ao : Option Addr) (an ac : Nat) (uo : Option Addr) (un uc : Nat) (bo : Option Addr) (bn bc : Nat) : Prop where
  x : W.heap[w.heap.size]? = some (.cells #[.slice so sn sc, .slice ao an ac] 36 (0, 0))
  y : W.heap[w.heap.size + 1]? = some (.cells #[.slice uo un uc, .slice bo bn bc] 36 (0, 0))
  r : W.heap[w.heap.size + 1 + 1]? = some (.cells #[.slice none 0 0, .slice none 0 0] 36 (0, 0))
  bel : Below w.heap.size w W
theorem DuQ.sz {w W : World} {so : Option Addr} {sn sc : Nat} {ao : Option Addr} {an ac : Nat} {uo : Option Addr} {un uc : Nat} {bo : Option Addr} {bn bc : Nat} (h : DuQ w W so sn sc ao an ac uo un uc bo bn bc) : w.heap.size + 3 ≤ W.heap.size := by
  have := (Array.getElem?_eq_some_iff.1 h.r).1
  omega
theorem DuQ.below {w W W' : World} {so : Option Addr} {sn sc : Nat} {ao : Option Addr} {an ac : Nat} {uo : Option Addr} {un uc : Nat} {bo : Option Addr} {bn bc B : Nat} (h : DuQ w W so sn sc ao an ac uo un uc bo bn bc) (k : Below B W W') (hB : w.heap.size + 3 ≤ B) : DuQ w W' so sn sc ao an ac uo un uc bo bn bc :=
  ⟨(k.block _ (by omega)).trans h.x, (k.block _ (by omega)).trans h.y, (k.block _ (by omega)).trans h.r, h.bel.trans (k.mono (by omega))⟩
theorem du_startQ (w : World) (so : Option Addr) (sn sc : Nat) (ao : Option Addr) (an ac : Nat) (uo : Option Addr) (un uc : Nat) (bo : Option Addr) (bn bc : Nat) :
    DuQ w (((w.alloc (.cells #[.slice so sn sc, .slice ao an ac] 36)).alloc (.cells #[.slice uo un uc, .slice bo bn bc] 36)).alloc (.cells #[.slice none 0 0, .slice none 0 0] 36)) so sn sc ao an ac uo un uc bo bn bc := by
  have k1 := box_below w (.cells #[.slice so sn sc, .slice ao an ac] 36)
  have b1 := allocNew w (.cells #[.slice so sn sc, .slice ao an ac] 36)
  have k2 := box_below (w.alloc (.cells #[.slice so sn sc, .slice ao an ac] 36)) (.cells #[.slice uo un uc, .slice bo bn bc] 36)
  have b2 := allocNew (w.alloc (.cells #[.slice so sn sc, .slice ao an ac] 36)) (.cells #[.slice uo un uc, .slice bo bn bc] 36)
  have k3 := box_below ((w.alloc (.cells #[.slice so sn sc, .slice ao an ac] 36)).alloc (.cells #[.slice uo un uc, .slice bo bn bc] 36)) (.cells #[.slice none 0 0, .slice none 0 0] 36)
  have b3 := allocNew ((w.alloc (.cells #[.slice so sn sc, .slice ao an ac] 36)).alloc (.cells #[.slice uo un uc, .slice bo bn bc] 36)) (.cells #[.slice none 0 0, .slice none 0 0] 36)
  simp only [World.size_alloc] at k2 b2 k3 b3
  exact ⟨(k3.block _ (by omega)).trans ((k2.block _ (by omega)).trans b1), (k3.block _ (by omega)).trans b2, b3, (k1.trans (k2.mono (by omega))).trans (k3.mono (by omega))⟩
/-- A result's box is written: what else there is, and the new rows. -/
theorem ft_setQ {e : TypeId} {V : World} {B b : Nat} {o : Option Addr} {n c : Nat} {zs : List Int} (h : Ft e V B o n c zs) (hb : b < B) (u v : Value) : Ft e ((V.setCell ⟨b, 0, none⟩ u).setCell ⟨b, 1, none⟩ v) B o n c zs := by
  have a := h.at
  exact h.keep1 (set2 V b 0 1 u v) (fun b' off e e' => by have := (a b' off e).1; injection e' with e'; omega)

end Go.Proofs.YtelcagfaflpolaaGreat



namespace Go.Proofs.YtelcagfaflpolaaGreat

open Go.RowKit

set_option linter.unusedVariables false

def sOp (k : Nat) : Int := [27, 34, 35, 36, 11, 10, 37, 38, 18, 19].getD k 0
def sM (k : Nat) : Value := [.nilFunc, .nilFunc, .nilFunc, .func (.func 122) #[] #[], .func (.func 123) #[] #[], .func (.func 124) #[] #[], .func (.func 125) #[] #[], .func (.func 127) #[] #[], .nilFunc, .nilFunc].getD k .nilFunc
def sD (k : Nat) : Value := [.func (.func 119) #[] #[], .func (.func 120) #[] #[], .func (.func 121) #[] #[], .nilFunc, .nilFunc, .nilFunc, .func (.func 126) #[] #[], .func (.func 128) #[] #[], .func (.func 129) #[] #[], .func (.func 130) #[] #[]].getD k .nilFunc
def seekRow : List Value := [.int .i64 27, .nilFunc, .func (.func 119) #[] #[], .int .i64 34, .nilFunc, .func (.func 120) #[] #[], .int .i64 35, .nilFunc, .func (.func 121) #[] #[], .int .i64 36, .func (.func 122) #[] #[], .nilFunc, .int .i64 11, .func (.func 123) #[] #[], .nilFunc, .int .i64 10, .func (.func 124) #[] #[], .nilFunc, .int .i64 37, .func (.func 125) #[] #[], .func (.func 126) #[] #[], .int .i64 38, .func (.func 127) #[] #[], .func (.func 128) #[] #[], .int .i64 18, .nilFunc, .func (.func 129) #[] #[], .int .i64 19, .nilFunc, .func (.func 130) #[] #[]]
theorem seekRow_at (l : List Value) (hl : l = seekRow) : ∀ k : Nat, k < 10 → l[k * 3]? = some (.int .i64 (sOp k)) ∧ l[k * 3 + 1]? = some (sM k) ∧ l[k * 3 + 2]? = some (sD k) := by
  subst hl
  intro k hk
  match k, hk with
  | 0, _ => exact ⟨rfl, rfl, rfl⟩
  | 1, _ => exact ⟨rfl, rfl, rfl⟩
  | 2, _ => exact ⟨rfl, rfl, rfl⟩
  | 3, _ => exact ⟨rfl, rfl, rfl⟩
  | 4, _ => exact ⟨rfl, rfl, rfl⟩
  | 5, _ => exact ⟨rfl, rfl, rfl⟩
  | 6, _ => exact ⟨rfl, rfl, rfl⟩
  | 7, _ => exact ⟨rfl, rfl, rfl⟩
  | 8, _ => exact ⟨rfl, rfl, rfl⟩
  | 9, _ => exact ⟨rfl, rfl, rfl⟩

theorem seekTab {W : World} {g : Nat} (h : W.heap[g]? = some (.cells seekRow.toArray 128 (0, 0))) : ∀ k : Nat, k < 10 → W.cell? ⟨g, k * 3, none⟩ = some (.int .i64 (sOp k)) ∧ W.cell? ⟨g, k * 3 + 1, none⟩ = some (sM k) ∧ W.cell? ⟨g, k * 3 + 2, none⟩ = some (sD k) := fun k hk =>
  have tab := seekRow_at _ rfl
  ⟨(cell_of_row W g _ _ _ (0, 0) h).trans (by simpa using (tab k hk).1), (cell_of_row W g _ _ _ (0, 0) h).trans (by simpa using (tab k hk).2.1), (cell_of_row W g _ _ _ (0, 0) h).trans (by simpa using (tab k hk).2.2)⟩
set_option maxRecDepth 20000 in
theorem rows_any (w : World) : Calls Tryz.prog 95 #[] w fun e w' => e = .returned (.slice (some ⟨w.heap.size, 0, none⟩) 10 10) ∧ w' = w.alloc (.cells seekRow.toArray 128) := by
  go_enter Tryz.func95, Tryz.ntmps95
  go_wp2
  go_ret
  exact ⟨rfl, rfl⟩
theorem bx3Q {W : World} {g : Nat} {a b c : Value} {t : TypeId} (h : W.heap[g]? = some (.cells #[a, b, c] t (0, 0))) :
    W.cell? ⟨g, 0, none⟩ = some a ∧ W.cell? ⟨g, 1, none⟩ = some b ∧ W.cell? ⟨g, 2, none⟩ = some c ∧ W.frozen? ⟨g, 0, none⟩ = false ∧ W.frozen? ⟨g, 1, none⟩ = false ∧ W.frozen? ⟨g, 2, none⟩ = false :=
  ⟨(cell_of_row W g 0 _ t (0, 0) h).trans rfl, (cell_of_row W g 1 _ t (0, 0) h).trans rfl, (cell_of_row W g 2 _ t (0, 0) h).trans rfl, frozen_of_row W g 0 _ t h, frozen_of_row W g 1 _ t h, frozen_of_row W g 2 _ t h⟩
theorem below_set3Q {a W : World} {B b : Nat} (o1 o2 o3 : Nat) (v1 v2 v3 : Value) (h : Below B a W) (hb : B ≤ b) : Below B a (((W.setCell ⟨b, o1, none⟩ v1).setCell ⟨b, o2, none⟩ v2).setCell ⟨b, o3, none⟩ v3) :=
  ((h.setCell (p := ⟨b, o1, none⟩) hb v1).setCell (p := ⟨b, o2, none⟩) hb v2).setCell (p := ⟨b, o3, none⟩) hb v3
theorem sRow_kinds (k : Nat) (hk : k < 10) : (sM k = .nilFunc ∧ ∃ G, sD k = .func (.func G) #[] #[]) ∨ (sD k = .nilFunc ∧ ∃ F, sM k = .func (.func F) #[] #[]) ∨ ∃ F G, sM k = .func (.func F) #[] #[] ∧ sD k = .func (.func G) #[] #[] := by
  match k, hk with
  | 0, _ => exact .inl ⟨rfl, _, rfl⟩
  | 1, _ => exact .inl ⟨rfl, _, rfl⟩
  | 2, _ => exact .inl ⟨rfl, _, rfl⟩
  | 3, _ => exact .inr (.inl ⟨rfl, _, rfl⟩)
  | 4, _ => exact .inr (.inl ⟨rfl, _, rfl⟩)
  | 5, _ => exact .inr (.inl ⟨rfl, _, rfl⟩)
  | 6, _ => exact .inr (.inr ⟨_, _, rfl, rfl⟩)
  | 7, _ => exact .inr (.inr ⟨_, _, rfl, rfl⟩)
  | 8, _ => exact .inl ⟨rfl, _, rfl⟩
  | 9, _ => exact .inl ⟨rfl, _, rfl⟩

set_option maxHeartbeats 2000000 in
theorem rowOf_27 (w : World) :
    Calls Tryz.prog 84 #[.int .i64 27] w fun e w' => e = .returned (.tuple #[.agg #[.int .i64 27, .nilFunc, .func (.func 119) #[] #[]], .bool true]) ∧ Below w.heap.size w w' := by
  have hd := rows_any (w.alloc (.cells #[.int .i64 0, .nilFunc, .nilFunc] 128))
  have T := seekTab (allocNew (w.alloc (.cells #[.int .i64 0, .nilFunc, .nilFunc] 128)) (.cells seekRow.toArray 128))
  have R := ((box_below (w.alloc (.cells #[.int .i64 0, .nilFunc, .nilFunc] 128)) (.cells seekRow.toArray 128)).block w.heap.size (by simp)).trans (allocNew w (.cells #[.int .i64 0, .nilFunc, .nilFunc] 128))
  have B0 : Below w.heap.size w ((w.alloc (.cells #[.int .i64 0, .nilFunc, .nilFunc] 128)).alloc (.cells seekRow.toArray 128)) := (box_below w _).trans ((box_below _ _).mono (by simp))
  simp only [World.size_alloc] at T hd
  generalize hW2 : (w.alloc (.cells #[.int .i64 0, .nilFunc, .nilFunc] 128)).alloc (.cells seekRow.toArray 128) = W2 at *
  have hs2 : W2.heap.size = w.heap.size + 2 := by rw [← hW2]; simp
  clear hW2
  go_enter Tryz.func84, Tryz.ntmps84
  go_wp2_with (go_at_call 95; (with_reducible refine hd.mono ?_); rintro e w' ⟨rfl, hw⟩; rw [hw]; clear hw w' hd)
  go_loopw [8] (fun i V => ∃ j : Nat, j ≤ 0 ∧ i = .int .i64 (j : Nat) ∧ Below W2.heap.size W2 V) (fun i _ => 10 - (intOf i).toNat)
  case atStart => exact ⟨0, Nat.zero_le _, rfl, Below.refl _ _⟩
  case round =>
    obtain ⟨j, hj, rfl, BV⟩ := hrel
    obtain ⟨r0, r1, r2⟩ := T j (by omega)
    have lt := World.block_lt_of_cell? W2 _ r0
    have y0 := (BV.cell (p := ⟨w.heap.size + 1, j * 3, none⟩) lt).trans r0; have y1 := (BV.cell (p := ⟨w.heap.size + 1, j * 3 + 1, none⟩) lt).trans r1; have y2 := (BV.cell (p := ⟨w.heap.size + 1, j * 3 + 2, none⟩) lt).trans r2
    have bj : (j : Int) < 10 := by omega
    have tj : decide ((j : Int) < 10) = true := by simp; omega
    by_cases hlt : j < 0
    · exact absurd hlt (Nat.not_lt_zero _)
    · obtain rfl : j = 0 := by omega
      rw [show sOp 0 = 27 from rfl] at y0
      rw [show sM 0 = .nilFunc from rfl] at y1
      rw [show sD 0 = .func (.func 119) #[] #[] from rfl] at y2
      have BV2 := BV.trans ((box_below wr (.cells #[.int .i64 27, .nilFunc, .func (.func 119) #[] #[]] 128)).mono BV.size)
      have RV := (BV2.block w.heap.size (by omega)).trans R
      obtain ⟨q0, q1, q2, z0, z1, z2⟩ := bx3Q RV
      have BB := B0.trans (BV2.mono (by omega))
      clear T R
      go_wp2
      (try simp only [Exit.inBlock, Exit.then])
      refine bodyPost_ret (v := .tuple #[.agg #[.int .i64 27, .nilFunc, .func (.func 119) #[] #[]], .bool true]) (by rw [results_cell_tmp rfl]; go_simp) rfl ?_
      exact ⟨rfl, below_set3Q _ _ _ _ _ _ BB (Nat.le_refl _)⟩

set_option maxHeartbeats 2000000 in
theorem rowOf_19 (w : World) :
    Calls Tryz.prog 84 #[.int .i64 19] w fun e w' => e = .returned (.tuple #[.agg #[.int .i64 19, .nilFunc, .func (.func 130) #[] #[]], .bool true]) ∧ Below w.heap.size w w' := by
  have hd := rows_any (w.alloc (.cells #[.int .i64 0, .nilFunc, .nilFunc] 128))
  have T := seekTab (allocNew (w.alloc (.cells #[.int .i64 0, .nilFunc, .nilFunc] 128)) (.cells seekRow.toArray 128))
  have R := ((box_below (w.alloc (.cells #[.int .i64 0, .nilFunc, .nilFunc] 128)) (.cells seekRow.toArray 128)).block w.heap.size (by simp)).trans (allocNew w (.cells #[.int .i64 0, .nilFunc, .nilFunc] 128))
  have B0 : Below w.heap.size w ((w.alloc (.cells #[.int .i64 0, .nilFunc, .nilFunc] 128)).alloc (.cells seekRow.toArray 128)) := (box_below w _).trans ((box_below _ _).mono (by simp))
  simp only [World.size_alloc] at T hd
  generalize hW2 : (w.alloc (.cells #[.int .i64 0, .nilFunc, .nilFunc] 128)).alloc (.cells seekRow.toArray 128) = W2 at *
  have hs2 : W2.heap.size = w.heap.size + 2 := by rw [← hW2]; simp
  clear hW2
  go_enter Tryz.func84, Tryz.ntmps84
  go_wp2_with (go_at_call 95; (with_reducible refine hd.mono ?_); rintro e w' ⟨rfl, hw⟩; rw [hw]; clear hw w' hd)
  go_loopw [8] (fun i V => ∃ j : Nat, j ≤ 9 ∧ i = .int .i64 (j : Nat) ∧ Below W2.heap.size W2 V) (fun i _ => 10 - (intOf i).toNat)
  case atStart => exact ⟨0, Nat.zero_le _, rfl, Below.refl _ _⟩
  case round =>
    obtain ⟨j, hj, rfl, BV⟩ := hrel
    obtain ⟨r0, r1, r2⟩ := T j (by omega)
    have lt := World.block_lt_of_cell? W2 _ r0
    have y0 := (BV.cell (p := ⟨w.heap.size + 1, j * 3, none⟩) lt).trans r0; have y1 := (BV.cell (p := ⟨w.heap.size + 1, j * 3 + 1, none⟩) lt).trans r1; have y2 := (BV.cell (p := ⟨w.heap.size + 1, j * 3 + 2, none⟩) lt).trans r2
    have bj : (j : Int) < 10 := by omega
    have tj : decide ((j : Int) < 10) = true := by simp; omega
    by_cases hlt : j < 9
    · have hne : (sOp j == 19) = false := by
        match j, hlt with
        | 0, _ => rfl
        | 1, _ => rfl
        | 2, _ => rfl
        | 3, _ => rfl
        | 4, _ => rfl
        | 5, _ => rfl
        | 6, _ => rfl
        | 7, _ => rfl
        | 8, _ => rfl
      generalize sOp j = OJ at *
      rcases sRow_kinds j (by omega) with ⟨e1, G, e2⟩ | ⟨e2, F, e1⟩ | ⟨F, G, e1, e2⟩
      all_goals
        rw [e1] at y1
        rw [e2] at y2
        clear e1 e2
        go_wp2
        go_roundw
        case rel => exact ⟨j + 1, by omega, by go_num, BV.trans ((box_below wr _).mono BV.size)⟩
        case measure => simp [intOf]; omega
    · obtain rfl : j = 9 := by omega
      rw [show sOp 9 = 19 from rfl] at y0
      rw [show sM 9 = .nilFunc from rfl] at y1
      rw [show sD 9 = .func (.func 130) #[] #[] from rfl] at y2
      have BV2 := BV.trans ((box_below wr (.cells #[.int .i64 19, .nilFunc, .func (.func 130) #[] #[]] 128)).mono BV.size)
      have RV := (BV2.block w.heap.size (by omega)).trans R
      obtain ⟨q0, q1, q2, z0, z1, z2⟩ := bx3Q RV
      have BB := B0.trans (BV2.mono (by omega))
      clear T R
      go_wp2
      (try simp only [Exit.inBlock, Exit.then])
      refine bodyPost_ret (v := .tuple #[.agg #[.int .i64 19, .nilFunc, .func (.func 130) #[] #[]], .bool true]) (by rw [results_cell_tmp rfl]; go_simp) rfl ?_
      exact ⟨rfl, below_set3Q _ _ _ _ _ _ BB (Nat.le_refl _)⟩
end Go.Proofs.YtelcagfaflpolaaGreat


namespace Go.Proofs.YtelcagfaflpolaaGreat

open Go.RowKit

set_option linter.unusedVariables false

theorem nD_eqF (w : World) (f : Fn) (a c : Array Value) : (binOp .eql 89 (.func f a c) .nilFunc).run Tryz.prog w = .ok (.bool false) w := by
  have hu : Tryz.prog.underlying 89 = some (.func #[36, 36] #[36, 28] false) := by kernel_rfl
  have h : (Op.equal 89 (.func f a c) .nilFunc).run Tryz.prog w = .ok false w := by
    show (Op.equalIn (9999 + 1) 89 (.func f a c) .nilFunc).run Tryz.prog w = .ok false w
    rw [Op.equalIn]
    simp [Sem.run_bind, run_underlying hu, Result.andThen]
  simp [binOp, h]
/-- What a call answers: an array and an error. -/
def AnsQ (w : World) (Φ : List Int → List Int → Prop) (E : Int) (e : Ending) (w' : World) : Prop := ∃ o1 n1 c1 o2 n2 c2 S A, e = .returned (.tuple #[.agg #[.slice o1 n1 c1, .slice o2 n2 c2], .int .i64 E]) ∧ Ft 3 w' w.heap.size o1 n1 c1 S ∧ Ft 2 w' w.heap.size o2 n2 c2 A ∧ Φ S A ∧ Below w.heap.size w w'

set_option maxHeartbeats 1000000 in
theorem match_any (so ao uo bo : Option Addr) (sn sc an ac un uc bn bc : Nat) (sh at' th bt' : List Int) (w : World) (h : Rd w so sn sh) (g : Rd w ao an at') (h2 : Rd w uo un th) (g2 : Rd w bo bn bt') :
    Calls Tryz.prog 130 #[.agg #[.slice so sn sc, .slice ao an ac], .agg #[.slice uo un uc, .slice bo bn bc]] w fun e w' => AnsQ w (fun S A => S = [] ∧ A = [if eqA sh at' th bt' then 1 else 0]) 0 e w' := by
  have D0 := du_startQ w so sn sc ao an ac uo un uc bo bn bc
  have hsm := same_any so ao uo bo sn sc an ac un uc bn bc sh at' th bt' _ (h.below D0.bel (Nat.le_refl _)) (g.below D0.bel (Nat.le_refl _)) (h2.below D0.bel (Nat.le_refl _)) (g2.below D0.bel (Nat.le_refl _))
  obtain ⟨q0, q1, _, _⟩ := box2 D0.x
  obtain ⟨y0, y1, _, _⟩ := box2 D0.y
  generalize eqA sh at' th bt' = b at *
  have ht := fun V => truth_any b V
  have hb : -9223372036854775808 ≤ (if b = true then (1 : Int) else 0) ∧ (if b = true then (1 : Int) else 0) ≤ 9223372036854775807 := by cases b <;> simp
  generalize (if b = true then (1 : Int) else 0) = u at *
  go_enter Tryz.func130, Tryz.ntmps130
  go_wp2_with (first
    | (go_at_call 181; (with_reducible refine hsm.mono ?_); rintro e w1 ⟨rfl, lb⟩; have D1 := D0.below lb D0.sz)
    | (go_at_call 170; (with_reducible refine (ht _).mono ?_); rintro e w3 ⟨rfl, hw3⟩; rw [hw3]; clear hw3 w3)
    | (go_at_call 180; (with_reducible refine (scalar_any u w1 hb.1 hb.2).mono ?_); rintro e w2 ⟨o2, c2, rfl, f2, b2⟩; have D2 := D1.below b2 D1.sz; have s1 := D1.sz; obtain ⟨r0, r1, r2, r3⟩ := box2 D2.r))
  (try simp only [Exit.inBlock, Exit.then])
  refine bodyPost_ret (v := .tuple #[.agg #[.slice none 0 0, .slice o2 1 c2], .int .i64 0]) (by rw [results_cell_tmp rfl]; go_simp) rfl ?_
  exact ⟨none, 0, 0, o2, 1, c2, [], [u], rfl, Ft.nil _ _ _, (ft_setQ f2 (by omega) _ _).mono (by omega), ⟨rfl, rfl⟩, below_set2 _ _ _ _ D2.bel (by omega) (Nat.le_refl _)⟩

set_option maxHeartbeats 1000000 in
theorem from_bad (so ao uo bo : Option Addr) (sn sc an ac un uc bn bc : Nat) (w : World) (hn : 0 < sn) :
    Calls Tryz.prog 119 #[.agg #[.slice so sn sc, .slice ao an ac], .agg #[.slice uo un uc, .slice bo bn bc]] w fun e w' => AnsQ w (fun S A => S = [] ∧ A = []) 12 e w' := by
  have D0 := du_startQ w so sn sc ao an ac uo un uc bo bn bc
  obtain ⟨q0, q1, _, _⟩ := box2 D0.x
  obtain ⟨r0, r1, r2, r3⟩ := box2 D0.r
  have t1 : decide (0 < sn) = true := by simpa using hn
  have t2 : (0 : Int) < (sn : Int) := by omega
  go_enter Tryz.func119, Tryz.ntmps119
  go_wp2
  (try simp only [Exit.inBlock, Exit.then])
  go_returns
  exact ⟨none, 0, 0, none, 0, 0, [], [], rfl, Ft.nil _ _ _, Ft.nil _ _ _, ⟨rfl, rfl⟩, by first | exact D0.bel | exact below_set2 _ _ _ _ D0.bel (by omega) (Nat.le_refl _)⟩

set_option maxHeartbeats 2000000 in
theorem from_ok (so ao uo bo : Option Addr) (sc an ac un uc bn bc : Nat) (x : Int) (at' th bt' : List Int) (w : World) (g : Rd w ao an at') (han : 0 < an) (hx : nth at' 0 = x) (h2 : Rd w uo un th) (hs2 : Sl uo un uc) (g2 : Rd w bo bn bt') (gs2 : Sl bo bn bc) :
    Calls Tryz.prog 119 #[.agg #[.slice so 0 sc, .slice ao an ac], .agg #[.slice uo un uc, .slice bo bn bc]] w fun e w' => AnsQ w (fun S A => S = itmS th bt' x ∧ A = itmA th bt' x) (itmE th bt' x) e w' := by
  have D0 := du_startQ w so 0 sc ao an ac uo un uc bo bn bc
  have D1 : DuQ w (((w.alloc (.cells #[.slice so 0 sc, .slice ao an ac] 36)).alloc (.cells #[.slice uo un uc, .slice bo bn bc] 36)).alloc (.cells #[.slice none 0 0, .slice none 0 0] 36)).drew so 0 sc ao an ac uo un uc bo bn bc := D0.below (B := w.heap.size + 3) (Below.refl _ _).drew (Nat.le_refl _)
  obtain ⟨b, off, rfl, hb, hc⟩ := g.cells han
  have cx := hc 0 han
  rw [Nat.add_zero, hx] at cx
  have hit := item_any uo bo un uc bn bc th bt' x _ (h2.below D1.bel (Nat.le_refl _)) hs2 (g2.below D1.bel (Nat.le_refl _)) gs2
  obtain ⟨q0, q1, _, _⟩ := box2 D0.x
  have al : ∀ V, DuQ w V so 0 sc (some ⟨b, off, none⟩) an ac uo un uc bo bn bc → V.cell? ⟨w.heap.size + 1, 0, none⟩ = some (.slice uo un uc) ∧ V.cell? ⟨w.heap.size + 1, 1, none⟩ = some (.slice bo bn bc) ∧ V.cell? ⟨w.heap.size, 1, none⟩ = some (.slice (some ⟨b, off, none⟩) an ac) ∧ V.cell? ⟨b, off, none⟩ = some (.int .i64 x) := fun V D => ⟨(box2 D.y).1, (box2 D.y).2.1, (box2 D.x).2.1, (D.bel.cell (p := ⟨b, off, none⟩) hb).trans cx⟩
  generalize itmE th bt' x = E at *
  generalize itmS th bt' x = S0 at *
  generalize itmA th bt' x = A0 at *
  have ban : (0 : Int) < (an : Int) := by omega
  have ban2 : 0 < an := han
  clear hc hx
  go_enter Tryz.func119, Tryz.ntmps119
  go_wp2
  go_region_held3 (fun V => V.cell? ⟨w.heap.size + 1, 0, none⟩ = some (.slice uo un uc) ∧ V.cell? ⟨w.heap.size + 1, 1, none⟩ = some (.slice bo bn bc) ∧ V.cell? ⟨w.heap.size, 1, none⟩ = some (.slice (some ⟨b, off, none⟩) an ac) ∧ V.cell? ⟨b, off, none⟩ = some (.int .i64 x)) (first | exact al _ D1 | exact al _ D2 | exact S6)
    (first
      | (go_at_call 164; (with_reducible refine hit.mono ?_); rintro e w4 ⟨o1, n1, c1, o2, n2, c2, rfl, F1, F2, _, b4⟩; have D2 := D1.below b4 D1.sz; have s1 := D1.sz; have s2 := D2.sz; obtain ⟨r0, r1, r2, r3⟩ := box2 D2.r; have kk := set2 w4 (w.heap.size + 1 + 1) 0 1 (.slice o1 n1 c1) (.slice o2 n2 c2); have yy := box2 ((kk.block (w.heap.size + 1) (by omega) (fun e => by injection e with e; omega)).trans D2.y); have xx := box2 ((kk.block w.heap.size (by omega) (fun e => by injection e with e; omega)).trans D2.x); have cc := kk.cell ((D2.bel.cell (p := ⟨b, off, none⟩) hb).trans cx) (fun e => by injection e with e; have e' : b = w.heap.size + 1 + 1 := e; omega); have S6 : _ ∧ _ ∧ _ ∧ _ := ⟨yy.1, yy.2.1, xx.2.1, cc⟩))
  go_wp2
  (try simp only [Exit.inBlock, Exit.then])
  refine bodyPost_ret (v := .tuple #[.agg #[.slice o1 n1 c1, .slice o2 n2 c2], .int .i64 E]) (by rw [results_cell_tmp rfl]; go_simp) rfl ?_
  exact ⟨o1, n1, c1, o2, n2, c2, S0, A0, rfl, (ft_setQ F1 (by omega) _ _).mono (by omega), (ft_setQ F2 (by omega) _ _).mono (by omega), ⟨rfl, rfl⟩, below_set2 _ _ _ _ D2.bel (by omega) (Nat.le_refl _)⟩

set_option maxHeartbeats 2000000 in
theorem dyadS_from (xso xo so ao : Option Addr) (xsn xsc xn xc sn sc an ac : Nat) (sx ax sy ay : List Int) (Φ : List Int → List Int → Prop) (E : Int) (w : World) (hsx : Rd w xso xsn sx) (hax : Rd w xo xn ax) (hsy : Rd w so sn sy) (hay : Rd w ao an ay) (mx : mayA sx ax = 0) (my : mayA sy ay = 0)
    (hc : ∀ V, Below w.heap.size w V → Calls Tryz.prog 119 #[.agg #[.slice xso xsn xsc, .slice xo xn xc], .agg #[.slice so sn sc, .slice ao an ac]] V fun e w' => AnsQ V Φ E e w') :
    Calls Tryz.prog 69 #[.int .i64 27, .agg #[.slice xso xsn xsc, .slice xo xn xc], .agg #[.slice so sn sc, .slice ao an ac]] w fun e w' => AnsQ w Φ E e w' := by
  have D0 := du_startQ w xso xsn xsc xo xn xc so sn sc ao an ac
  have s0 := D0.sz
  have cM1 := mayA_any xso xo xsn xsc xn xc sx ax _ (hsx.below D0.bel (Nat.le_refl _)) (hax.below D0.bel (Nat.le_refl _))
  have cM2 := fun V (D : DuQ w V xso xsn xsc xo xn xc so sn sc ao an ac) => mayA_any so ao sn sc an ac sy ay V (hsy.below D.bel (Nat.le_refl _)) (hay.below D.bel (Nat.le_refl _))
  rw [mx] at cM1
  rw [my] at cM2
  have cD := fun V => rowOf_27 V
  obtain ⟨x0, x1, _, _⟩ := box2 D0.x
  obtain ⟨x2, x3, _, _⟩ := box2 D0.y
  clear mx my
  have hnil := fun V => nD_eqF V (.func 119) #[] #[]
  go_enter Tryz.func69, Tryz.ntmps69
  go_wp2_with (first
    | (go_at_call 13; (with_reducible refine cM1.mono ?_); rintro e w1 ⟨rfl, k1⟩; have D1 := D0.below k1 s0; have s1 := D1.sz; obtain ⟨y0, y1, _, _⟩ := box2 D1.x; obtain ⟨y2, y3, _, _⟩ := box2 D1.y)
    | (go_at_call 13; (with_reducible refine (cM2 w1 D1).mono ?_); rintro e w2 ⟨rfl, k2⟩; have D2 := D1.below k2 s1; have s2 := D2.sz)
    | (go_at_call 84; (with_reducible refine (cD w2).mono ?_); rintro e w3 ⟨rfl, k3⟩; have D3 := D2.below k3 s2; have s3 := D3.sz; have D4 := D3.below (box_below w3 (.cells #[.int .i64 27, .nilFunc, .func (.func 119) #[] #[]] 128)) s3; obtain ⟨v0, v1, _, _⟩ := box2 D4.x; obtain ⟨v2, v3, _, _⟩ := box2 D4.y)
    | (go_at_call 119; (with_reducible refine (hc _ D4.bel).mono ?_); rintro e w5 ⟨o1, n1, c1, o2, n2, c2, S, A, rfl, f1, f2, hΦ, k5⟩; have s4 := D4.sz; have D5 := D4.below k5 s4; obtain ⟨z0, z1, z2, z3⟩ := box2 D5.r))
  (try simp only [Exit.inBlock, Exit.then])
  refine bodyPost_ret (v := .tuple #[.agg #[.slice o1 n1 c1, .slice o2 n2 c2], .int .i64 E]) (by rw [results_cell_tmp rfl]; go_simp) rfl ?_
  exact ⟨o1, n1, c1, o2, n2, c2, S, A, rfl, (ft_setQ f1 (by omega) _ _).mono (by omega), (ft_setQ f2 (by omega) _ _).mono (by omega), hΦ, below_set2 _ _ _ _ D5.bel (by omega) (Nat.le_refl _)⟩

set_option maxHeartbeats 2000000 in
theorem dyadS_match (xso xo so ao : Option Addr) (xsn xsc xn xc sn sc an ac : Nat) (sx ax sy ay : List Int) (Φ : List Int → List Int → Prop) (E : Int) (w : World) (hsx : Rd w xso xsn sx) (hax : Rd w xo xn ax) (hsy : Rd w so sn sy) (hay : Rd w ao an ay) (mx : mayA sx ax = 0) (my : mayA sy ay = 0)
    (hc : ∀ V, Below w.heap.size w V → Calls Tryz.prog 130 #[.agg #[.slice xso xsn xsc, .slice xo xn xc], .agg #[.slice so sn sc, .slice ao an ac]] V fun e w' => AnsQ V Φ E e w') :
    Calls Tryz.prog 69 #[.int .i64 19, .agg #[.slice xso xsn xsc, .slice xo xn xc], .agg #[.slice so sn sc, .slice ao an ac]] w fun e w' => AnsQ w Φ E e w' := by
  have D0 := du_startQ w xso xsn xsc xo xn xc so sn sc ao an ac
  have s0 := D0.sz
  have cM1 := mayA_any xso xo xsn xsc xn xc sx ax _ (hsx.below D0.bel (Nat.le_refl _)) (hax.below D0.bel (Nat.le_refl _))
  have cM2 := fun V (D : DuQ w V xso xsn xsc xo xn xc so sn sc ao an ac) => mayA_any so ao sn sc an ac sy ay V (hsy.below D.bel (Nat.le_refl _)) (hay.below D.bel (Nat.le_refl _))
  rw [mx] at cM1
  rw [my] at cM2
  have cD := fun V => rowOf_19 V
  obtain ⟨x0, x1, _, _⟩ := box2 D0.x
  obtain ⟨x2, x3, _, _⟩ := box2 D0.y
  clear mx my
  have hnil := fun V => nD_eqF V (.func 130) #[] #[]
  go_enter Tryz.func69, Tryz.ntmps69
  go_wp2_with (first
    | (go_at_call 13; (with_reducible refine cM1.mono ?_); rintro e w1 ⟨rfl, k1⟩; have D1 := D0.below k1 s0; have s1 := D1.sz; obtain ⟨y0, y1, _, _⟩ := box2 D1.x; obtain ⟨y2, y3, _, _⟩ := box2 D1.y)
    | (go_at_call 13; (with_reducible refine (cM2 w1 D1).mono ?_); rintro e w2 ⟨rfl, k2⟩; have D2 := D1.below k2 s1; have s2 := D2.sz)
    | (go_at_call 84; (with_reducible refine (cD w2).mono ?_); rintro e w3 ⟨rfl, k3⟩; have D3 := D2.below k3 s2; have s3 := D3.sz; have D4 := D3.below (box_below w3 (.cells #[.int .i64 19, .nilFunc, .func (.func 130) #[] #[]] 128)) s3; obtain ⟨v0, v1, _, _⟩ := box2 D4.x; obtain ⟨v2, v3, _, _⟩ := box2 D4.y)
    | (go_at_call 130; (with_reducible refine (hc _ D4.bel).mono ?_); rintro e w5 ⟨o1, n1, c1, o2, n2, c2, S, A, rfl, f1, f2, hΦ, k5⟩; have s4 := D4.sz; have D5 := D4.below k5 s4; obtain ⟨z0, z1, z2, z3⟩ := box2 D5.r))
  (try simp only [Exit.inBlock, Exit.then])
  refine bodyPost_ret (v := .tuple #[.agg #[.slice o1 n1 c1, .slice o2 n2 c2], .int .i64 E]) (by rw [results_cell_tmp rfl]; go_simp) rfl ?_
  exact ⟨o1, n1, c1, o2, n2, c2, S, A, rfl, (ft_setQ f1 (by omega) _ _).mono (by omega), (ft_setQ f2 (by omega) _ _).mono (by omega), hΦ, below_set2 _ _ _ _ D5.bel (by omega) (Nat.le_refl _)⟩

set_option maxHeartbeats 1000000 in
theorem dyadS_badx (op : Int) (xso xo so ao : Option Addr) (xsn xsc xn xc sn sc an ac : Nat) (sx ax sy ay : List Int) (w : World) (hsx : Rd w xso xsn sx) (hax : Rd w xo xn ax) (hsy : Rd w so sn sy) (hay : Rd w ao an ay) (mx : mayA sx ax ≠ 0) :
    Calls Tryz.prog 69 #[.int .i64 op, .agg #[.slice xso xsn xsc, .slice xo xn xc], .agg #[.slice so sn sc, .slice ao an ac]] w fun e w' => AnsQ w (fun S A => S = [] ∧ A = []) 1 e w' := by
  have D0 := du_startQ w xso xsn xsc xo xn xc so sn sc ao an ac
  have s0 := D0.sz
  have cM1 := mayA_any xso xo xsn xsc xn xc sx ax _ (hsx.below D0.bel (Nat.le_refl _)) (hax.below D0.bel (Nat.le_refl _))
  have cM2 := fun V (D : DuQ w V xso xsn xsc xo xn xc so sn sc ao an ac) => mayA_any so ao sn sc an ac sy ay V (hsy.below D.bel (Nat.le_refl _)) (hay.below D.bel (Nat.le_refl _))
  obtain ⟨x0, x1, _, _⟩ := box2 D0.x
  obtain ⟨x2, x3, _, _⟩ := box2 D0.y
  generalize mayA sx ax = M at *
  have t1 : (M != 0) = true := by simpa using mx
  clear mx
  go_enter Tryz.func69, Tryz.ntmps69
  go_wp2_with (first
    | (go_at_call 13; (with_reducible refine cM1.mono ?_); rintro e w1 ⟨rfl, k1⟩; have D1 := D0.below k1 s0; obtain ⟨r0, r1, r2, r3⟩ := box2 D1.r))
  (try simp only [Exit.inBlock, Exit.then])
  refine bodyPost_ret (v := .tuple #[.agg #[.slice none 0 0, .slice none 0 0], .int .i64 1]) (by rw [results_cell_tmp rfl]; go_simp) rfl ?_
  exact ⟨none, 0, 0, none, 0, 0, [], [], rfl, Ft.nil _ _ _, Ft.nil _ _ _, ⟨rfl, rfl⟩, below_set2 _ _ _ _ D1.bel (by omega) (Nat.le_refl _)⟩

set_option maxHeartbeats 1000000 in
theorem dyadS_bady (op : Int) (xso xo so ao : Option Addr) (xsn xsc xn xc sn sc an ac : Nat) (sx ax sy ay : List Int) (w : World) (hsx : Rd w xso xsn sx) (hax : Rd w xo xn ax) (hsy : Rd w so sn sy) (hay : Rd w ao an ay) (mx : mayA sx ax = 0) (my : mayA sy ay ≠ 0) :
    Calls Tryz.prog 69 #[.int .i64 op, .agg #[.slice xso xsn xsc, .slice xo xn xc], .agg #[.slice so sn sc, .slice ao an ac]] w fun e w' => AnsQ w (fun S A => S = [] ∧ A = []) 1 e w' := by
  have D0 := du_startQ w xso xsn xsc xo xn xc so sn sc ao an ac
  have s0 := D0.sz
  have cM1 := mayA_any xso xo xsn xsc xn xc sx ax _ (hsx.below D0.bel (Nat.le_refl _)) (hax.below D0.bel (Nat.le_refl _))
  have cM2 := fun V (D : DuQ w V xso xsn xsc xo xn xc so sn sc ao an ac) => mayA_any so ao sn sc an ac sy ay V (hsy.below D.bel (Nat.le_refl _)) (hay.below D.bel (Nat.le_refl _))
  obtain ⟨x0, x1, _, _⟩ := box2 D0.x
  obtain ⟨x2, x3, _, _⟩ := box2 D0.y
  rw [mx] at cM1
  generalize mayA sy ay = M at *
  have t1 : (M != 0) = true := by simpa using my
  clear my mx
  go_enter Tryz.func69, Tryz.ntmps69
  go_wp2_with (first
    | (go_at_call 13; (with_reducible refine cM1.mono ?_); rintro e w0 ⟨rfl, k0⟩; have Dz := D0.below k0 s0; have sz := Dz.sz; obtain ⟨y2, y3, _, _⟩ := box2 Dz.y)
    | (go_at_call 13; (with_reducible refine (cM2 w0 Dz).mono ?_); rintro e w1 ⟨rfl, k1⟩; have D1 := Dz.below k1 sz; obtain ⟨r0, r1, r2, r3⟩ := box2 D1.r))
  (try simp only [Exit.inBlock, Exit.then])
  refine bodyPost_ret (v := .tuple #[.agg #[.slice none 0 0, .slice none 0 0], .int .i64 1]) (by rw [results_cell_tmp rfl]; go_simp) rfl ?_
  exact ⟨none, 0, 0, none, 0, 0, [], [], rfl, Ft.nil _ _ _, Ft.nil _ _ _, ⟨rfl, rfl⟩, below_set2 _ _ _ _ D1.bel (by omega) (Nat.le_refl _)⟩

end Go.Proofs.YtelcagfaflpolaaGreat
