
/- What ArrFresh's own call answers. -/

import Derived.Test.YthncgocjegalhaaAFg

import Derived.Test.YthncgocjegalhaaA9

import Derived.Test.YthncgocjegalhaaA11

namespace Go.Proofs.Ythncgocjegalhaa

open Go.RowKit

set_option linter.unusedVariables false

theorem ft_box {e : TypeId} {w : World} {B : Nat} {ao : Option Addr} {n cap : Nat} {zs : List Int} (h : Ft e w B ao n cap zs) {j off r : Nat} (ea : ao = some ⟨j, off, none⟩) {cs : Array Value} (hr : w.heap[r]? = some (.cells cs 36 (0, 0))) (e' : some j = some r) (he : e ≠ 36 := by decide) : False := by
  simp only [Option.some.injEq] at e'
  subst e'
  obtain ⟨g, c, cur, h1, h2, h3, _⟩ := (h.own.2.resolve_left (fun x => by have := x.1; rw [ea] at this; cases this))
  rw [ea] at h1
  have : j = g := by simp at h1; exact h1.1.1
  subst this
  rw [hr] at h3
  simp only [Option.some.injEq, Obj.cells.injEq] at h3
  exact he h3.2.1.symm
/-- What is answered. -/
def ansC (K N I : Int) (s a l : List Int) : List Int × List Int :=
  if K = 2 then ([], [N]) else if K = 3 then (if l.length ≤ 4096 then ([(l.length : Int)], l) else ([], [])) else if K = 4 then (filS s, filA s N) else if K = 7 then (itmS s a I, itmA s a I) else ([], [])
def ansB (K : Int) : Bool := decide (K = 2) || decide (K = 3) || decide (K = 4) || decide (K = 7)
set_option maxHeartbeats 4000000 in
set_option maxRecDepth 20000 in
theorem ans7 (N I : Int) (so ao uo bo lo : Option Addr) (sn sc an ac tn tc bn bc ln lc : Nat) (s a l : List Int) (w : World) (rs : Rd w so sn s) (ra : Rd w ao an a) (rl : Rd w lo ln l) (ss : Sl so sn sc) (sa : Sl ao an ac) (sl : Sl lo ln lc) (hN1 : -9223372036854775808 ≤ N) (hN2 : N ≤ 9223372036854775807) :
    Calls Try.prog 8 #[.agg #[.int .i64 7, .slice so sn sc, .slice ao an ac, .slice uo tn tc, .slice bo bn bc, .int .i64 N, .int .i64 I, .slice lo ln lc]] w fun e w' => ∃ v, e = .returned (.tuple #[.agg #[v.1, v.2], .bool true]) ∧ ArB w' w.heap.size v (itmS s a I, itmA s a I) ∧ Below w.heap.size w w' := by
  have k0 := box_below w (.cells #[.int .i64 7, .slice so sn sc, .slice ao an ac, .slice uo tn tc, .slice bo bn bc, .int .i64 N, .int .i64 I, .slice lo ln lc] 38)
  have k1 := box_below (w.alloc (.cells #[.int .i64 7, .slice so sn sc, .slice ao an ac, .slice uo tn tc, .slice bo bn bc, .int .i64 N, .int .i64 I, .slice lo ln lc] 38)) (.cells #[.slice none 0 0, .slice none 0 0] 36)
  have K1 := k0.trans (k1.mono k0.size)
  have r1 := allocNew (w.alloc (.cells #[.int .i64 7, .slice so sn sc, .slice ao an ac, .slice uo tn tc, .slice bo bn bc, .int .i64 N, .int .i64 I, .slice lo ln lc] 38)) (.cells #[.slice none 0 0, .slice none 0 0] 36)
  rw [World.size_alloc] at r1
  have h2 := k1.size
  have cM := item_any so ao sn sc an ac s a I _ (rs.below K1 (Nat.le_refl _)) ss (ra.below K1 (Nat.le_refl _)) sa
  generalize itmE s a I = E at *
  generalize itmS s a I = S at *
  generalize itmA s a I = A at *
  go_enter Try.func8, Try.ntmps8
  go_wp2_with (go_at_call 17; (with_reducible refine cM.mono ?_); rintro e W2 ⟨o1, n1, c1, o2, n2, c2, rfl, f1, f2, _, k2⟩; have K2 := K1.trans (k2.mono K1.size); have r2 := (k2.block _ (Array.getElem?_eq_some_iff.1 r1).1).trans r1; have kb := box_below W2 (.cells #[.slice o1 n1 c1, .slice o2 n2 c2] 36); have K3 := K2.trans (kb.mono K2.size); have r3 := (kb.block _ (Array.getElem?_eq_some_iff.1 r2).1).trans r2; have g1 := f1.below kb (Nat.le_refl _); have g2 := f2.below kb (Nat.le_refl _); obtain ⟨y0, y1, _, _⟩ := box2 r3; obtain ⟨x0, x1, _, _⟩ := box2 (allocNew W2 (.cells #[.slice o1 n1 c1, .slice o2 n2 c2] 36)))
  (try simp only [Exit.inBlock, Exit.then])
  refine bodyPost_ret (v := .tuple #[.agg #[.slice o1 n1 c1, .slice o2 n2 c2], .bool true]) (by rw [results_cell_tmp rfl]; go_simp) rfl ?_
  refine ⟨(.slice o1 n1 c1, .slice o2 n2 c2), rfl, ⟨_, _, _, _, _, _, rfl, (g1.keep1 (set2 _ _ _ _ _ _) (fun j off e e' => ft_box g1 e r3 e')).mono (by simp; omega), (g2.keep1 (set2 _ _ _ _ _ _) (fun j off e e' => ft_box g2 e r3 e')).mono (by simp; omega)⟩, below_set2 _ _ _ _ K3 (by omega) (Nat.le_refl _)⟩
set_option maxHeartbeats 4000000 in
set_option maxRecDepth 20000 in
theorem ans4 (N I : Int) (so ao uo bo lo : Option Addr) (sn sc an ac tn tc bn bc ln lc : Nat) (s a l : List Int) (w : World) (rs : Rd w so sn s) (ra : Rd w ao an a) (rl : Rd w lo ln l) (ss : Sl so sn sc) (sa : Sl ao an ac) (sl : Sl lo ln lc) (hN1 : -9223372036854775808 ≤ N) (hN2 : N ≤ 9223372036854775807) :
    Calls Try.prog 8 #[.agg #[.int .i64 4, .slice so sn sc, .slice ao an ac, .slice uo tn tc, .slice bo bn bc, .int .i64 N, .int .i64 I, .slice lo ln lc]] w fun e w' => ∃ v, e = .returned (.tuple #[.agg #[v.1, v.2], .bool true]) ∧ ArB w' w.heap.size v (filS s, filA s N) ∧ Below w.heap.size w w' := by
  have k0 := box_below w (.cells #[.int .i64 4, .slice so sn sc, .slice ao an ac, .slice uo tn tc, .slice bo bn bc, .int .i64 N, .int .i64 I, .slice lo ln lc] 38)
  have k1 := box_below (w.alloc (.cells #[.int .i64 4, .slice so sn sc, .slice ao an ac, .slice uo tn tc, .slice bo bn bc, .int .i64 N, .int .i64 I, .slice lo ln lc] 38)) (.cells #[.slice none 0 0, .slice none 0 0] 36)
  have K1 := k0.trans (k1.mono k0.size)
  have r1 := allocNew (w.alloc (.cells #[.int .i64 4, .slice so sn sc, .slice ao an ac, .slice uo tn tc, .slice bo bn bc, .int .i64 N, .int .i64 I, .slice lo ln lc] 38)) (.cells #[.slice none 0 0, .slice none 0 0] 36)
  rw [World.size_alloc] at r1
  have h2 := k1.size
  have cM := fill_any so sn sc s N _ (rs.below K1 (Nat.le_refl _)) ss hN1 hN2
  generalize mayF s = E at *
  generalize filS s = S at *
  generalize filA s N = A at *
  go_enter Try.func8, Try.ntmps8
  go_wp2_with (go_at_call 23; (with_reducible refine cM.mono ?_); rintro e W2 ⟨o1, n1, c1, o2, n2, c2, rfl, f1, f2, _, k2⟩; have K2 := K1.trans (k2.mono K1.size); have r2 := (k2.block _ (Array.getElem?_eq_some_iff.1 r1).1).trans r1; have kb := box_below W2 (.cells #[.slice o1 n1 c1, .slice o2 n2 c2] 36); have K3 := K2.trans (kb.mono K2.size); have r3 := (kb.block _ (Array.getElem?_eq_some_iff.1 r2).1).trans r2; have g1 := f1.below kb (Nat.le_refl _); have g2 := f2.below kb (Nat.le_refl _); obtain ⟨y0, y1, _, _⟩ := box2 r3; obtain ⟨x0, x1, _, _⟩ := box2 (allocNew W2 (.cells #[.slice o1 n1 c1, .slice o2 n2 c2] 36)))
  (try simp only [Exit.inBlock, Exit.then])
  refine bodyPost_ret (v := .tuple #[.agg #[.slice o1 n1 c1, .slice o2 n2 c2], .bool true]) (by rw [results_cell_tmp rfl]; go_simp) rfl ?_
  refine ⟨(.slice o1 n1 c1, .slice o2 n2 c2), rfl, ⟨_, _, _, _, _, _, rfl, (g1.keep1 (set2 _ _ _ _ _ _) (fun j off e e' => ft_box g1 e r3 e')).mono (by simp; omega), (g2.keep1 (set2 _ _ _ _ _ _) (fun j off e e' => ft_box g2 e r3 e')).mono (by simp; omega)⟩, below_set2 _ _ _ _ K3 (by omega) (Nat.le_refl _)⟩
set_option maxHeartbeats 4000000 in
set_option maxRecDepth 20000 in
theorem ans3 (N I : Int) (so ao uo bo lo : Option Addr) (sn sc an ac tn tc bn bc ln lc : Nat) (s a l : List Int) (w : World) (rs : Rd w so sn s) (ra : Rd w ao an a) (rl : Rd w lo ln l) (ss : Sl so sn sc) (sa : Sl ao an ac) (sl : Sl lo ln lc) (hN1 : -9223372036854775808 ≤ N) (hN2 : N ≤ 9223372036854775807) :
    Calls Try.prog 8 #[.agg #[.int .i64 3, .slice so sn sc, .slice ao an ac, .slice uo tn tc, .slice bo bn bc, .int .i64 N, .int .i64 I, .slice lo ln lc]] w fun e w' => ∃ v, e = .returned (.tuple #[.agg #[v.1, v.2], .bool true]) ∧ ArB w' w.heap.size v ((ansC 3 N I s a l).1, (ansC 3 N I s a l).2) ∧ Below w.heap.size w w' := by
  have k0 := box_below w (.cells #[.int .i64 3, .slice so sn sc, .slice ao an ac, .slice uo tn tc, .slice bo bn bc, .int .i64 N, .int .i64 I, .slice lo ln lc] 38)
  have k1 := box_below (w.alloc (.cells #[.int .i64 3, .slice so sn sc, .slice ao an ac, .slice uo tn tc, .slice bo bn bc, .int .i64 N, .int .i64 I, .slice lo ln lc] 38)) (.cells #[.slice none 0 0, .slice none 0 0] 36)
  have K1 := k0.trans (k1.mono k0.size)
  have r1 := allocNew (w.alloc (.cells #[.int .i64 3, .slice so sn sc, .slice ao an ac, .slice uo tn tc, .slice bo bn bc, .int .i64 N, .int .i64 I, .slice lo ln lc] 38)) (.cells #[.slice none 0 0, .slice none 0 0] 36)
  rw [World.size_alloc] at r1
  have h2 := k1.size
  have cM : Calls Try.prog 16 #[.slice lo ln lc] ((w.alloc (.cells #[.int .i64 3, .slice so sn sc, .slice ao an ac, .slice uo tn tc, .slice bo bn bc, .int .i64 N, .int .i64 I, .slice lo ln lc] 38)).alloc (.cells #[.slice none 0 0, .slice none 0 0] 36)) fun e w' => ∃ o1 n1 c1 o2 n2 c2 E, e = .returned (.tuple #[.agg #[.slice o1 n1 c1, .slice o2 n2 c2], .int .i64 E]) ∧ Ft 3 w' ((w.alloc (.cells #[.int .i64 3, .slice so sn sc, .slice ao an ac, .slice uo tn tc, .slice bo bn bc, .int .i64 N, .int .i64 I, .slice lo ln lc] 38)).alloc (.cells #[.slice none 0 0, .slice none 0 0] 36)).heap.size o1 n1 c1 (ansC 3 N I s a l).1 ∧ Ft 2 w' ((w.alloc (.cells #[.int .i64 3, .slice so sn sc, .slice ao an ac, .slice uo tn tc, .slice bo bn bc, .int .i64 N, .int .i64 I, .slice lo ln lc] 38)).alloc (.cells #[.slice none 0 0, .slice none 0 0] 36)).heap.size o2 n2 c2 (ansC 3 N I s a l).2 ∧ Below ((w.alloc (.cells #[.int .i64 3, .slice so sn sc, .slice ao an ac, .slice uo tn tc, .slice bo bn bc, .int .i64 N, .int .i64 I, .slice lo ln lc] 38)).alloc (.cells #[.slice none 0 0, .slice none 0 0] 36)).heap.size ((w.alloc (.cells #[.int .i64 3, .slice so sn sc, .slice ao an ac, .slice uo tn tc, .slice bo bn bc, .int .i64 N, .int .i64 I, .slice lo ln lc] 38)).alloc (.cells #[.slice none 0 0, .slice none 0 0] 36)) w' := by
    by_cases h5 : ln ≤ 4096
    · refine (list_any lo ln lc l _ (rl.below K1 (Nat.le_refl _)) sl h5).mono ?_
      rintro e w' ⟨o1, c1, o2, c2, rfl, f1, f2, _, k⟩
      have e3 : ansC 3 N I s a l = ([(ln : Int)], l) := by unfold ansC; rw [if_neg (by decide), if_pos rfl, if_pos (by rw [rl.len]; exact h5), rl.len]
      rw [e3]
      exact ⟨_, _, _, _, _, _, _, rfl, f1, f2, k⟩
    · refine (list_long lo ln lc _ (by omega) (Nat.le_trans sl.le sl.max)).mono ?_
      rintro e w' ⟨rfl, k⟩
      have e3 : ansC 3 N I s a l = ([], []) := by unfold ansC; rw [if_neg (by decide), if_pos rfl, if_neg (by rw [rl.len]; exact h5)]
      rw [e3]
      exact ⟨_, _, _, _, _, _, _, rfl, Ft.nil _ _ _, Ft.nil _ _ _, k⟩
  generalize (ansC 3 N I s a l).1 = S at *
  generalize (ansC 3 N I s a l).2 = A at *
  go_enter Try.func8, Try.ntmps8
  go_wp2_with (go_at_call 16; (with_reducible refine cM.mono ?_); rintro e W2 ⟨o1, n1, c1, o2, n2, c2, E, rfl, f1, f2, k2⟩; have K2 := K1.trans (k2.mono K1.size); have r2 := (k2.block _ (Array.getElem?_eq_some_iff.1 r1).1).trans r1; have kb := box_below W2 (.cells #[.slice o1 n1 c1, .slice o2 n2 c2] 36); have K3 := K2.trans (kb.mono K2.size); have r3 := (kb.block _ (Array.getElem?_eq_some_iff.1 r2).1).trans r2; have g1 := f1.below kb (Nat.le_refl _); have g2 := f2.below kb (Nat.le_refl _); obtain ⟨y0, y1, _, _⟩ := box2 r3; obtain ⟨x0, x1, _, _⟩ := box2 (allocNew W2 (.cells #[.slice o1 n1 c1, .slice o2 n2 c2] 36)))
  (try simp only [Exit.inBlock, Exit.then])
  refine bodyPost_ret (v := .tuple #[.agg #[.slice o1 n1 c1, .slice o2 n2 c2], .bool true]) (by rw [results_cell_tmp rfl]; go_simp) rfl ?_
  refine ⟨(.slice o1 n1 c1, .slice o2 n2 c2), rfl, ⟨_, _, _, _, _, _, rfl, (g1.keep1 (set2 _ _ _ _ _ _) (fun j off e e' => ft_box g1 e r3 e')).mono (by simp; omega), (g2.keep1 (set2 _ _ _ _ _ _) (fun j off e e' => ft_box g2 e r3 e')).mono (by simp; omega)⟩, below_set2 _ _ _ _ K3 (by omega) (Nat.le_refl _)⟩
set_option maxHeartbeats 4000000 in
set_option maxRecDepth 20000 in
theorem ans2 (N I : Int) (so ao uo bo lo : Option Addr) (sn sc an ac tn tc bn bc ln lc : Nat) (s a l : List Int) (w : World) (rs : Rd w so sn s) (ra : Rd w ao an a) (rl : Rd w lo ln l) (ss : Sl so sn sc) (sa : Sl ao an ac) (sl : Sl lo ln lc) (hN1 : -9223372036854775808 ≤ N) (hN2 : N ≤ 9223372036854775807) :
    Calls Try.prog 8 #[.agg #[.int .i64 2, .slice so sn sc, .slice ao an ac, .slice uo tn tc, .slice bo bn bc, .int .i64 N, .int .i64 I, .slice lo ln lc]] w fun e w' => ∃ v, e = .returned (.tuple #[.agg #[v.1, v.2], .bool true]) ∧ ArB w' w.heap.size v ([], [N]) ∧ Below w.heap.size w w' := by
  have k0 := box_below w (.cells #[.int .i64 2, .slice so sn sc, .slice ao an ac, .slice uo tn tc, .slice bo bn bc, .int .i64 N, .int .i64 I, .slice lo ln lc] 38)
  have k1 := box_below (w.alloc (.cells #[.int .i64 2, .slice so sn sc, .slice ao an ac, .slice uo tn tc, .slice bo bn bc, .int .i64 N, .int .i64 I, .slice lo ln lc] 38)) (.cells #[.slice none 0 0, .slice none 0 0] 36)
  have K1 := k0.trans (k1.mono k0.size)
  have r1 := allocNew (w.alloc (.cells #[.int .i64 2, .slice so sn sc, .slice ao an ac, .slice uo tn tc, .slice bo bn bc, .int .i64 N, .int .i64 I, .slice lo ln lc] 38)) (.cells #[.slice none 0 0, .slice none 0 0] 36)
  rw [World.size_alloc] at r1
  have h2 := k1.size
  have cM := scalar_any N ((w.alloc (.cells #[.int .i64 2, .slice so sn sc, .slice ao an ac, .slice uo tn tc, .slice bo bn bc, .int .i64 N, .int .i64 I, .slice lo ln lc] 38)).alloc (.cells #[.slice none 0 0, .slice none 0 0] 36)) hN1 hN2
  go_enter Try.func8, Try.ntmps8
  go_wp2_with (go_at_call 18; (with_reducible refine cM.mono ?_); rintro e W2 ⟨o2, c2, rfl, f2, k2⟩; have K2 := K1.trans (k2.mono K1.size); have r2 := (k2.block _ (Array.getElem?_eq_some_iff.1 r1).1).trans r1; obtain ⟨y0, y1, _, _⟩ := box2 r2)
  (try simp only [Exit.inBlock, Exit.then])
  refine bodyPost_ret (v := .tuple #[.agg #[.slice none 0 0, .slice o2 1 c2], .bool true]) (by rw [results_cell_tmp rfl]; go_simp) rfl ?_
  refine ⟨(.slice none 0 0, .slice o2 1 c2), rfl, ⟨_, _, _, _, _, _, rfl, Ft.nil _ _ _, (f2.keep1 (set2 _ _ _ _ _ _) (fun j off e e' => ft_box f2 e r2 e')).mono (by simp; omega)⟩, below_set2 _ _ _ _ K2 (by omega) (Nat.le_refl _)⟩
set_option maxHeartbeats 4000000 in
set_option maxRecDepth 20000 in
theorem ans0 (K : Int) (h2 : K ≠ 2) (h3 : K ≠ 3) (h4 : K ≠ 4) (h7 : K ≠ 7) (N I : Int) (so ao uo bo lo : Option Addr) (sn sc an ac tn tc bn bc ln lc : Nat) (s a l : List Int) (w : World) (rs : Rd w so sn s) (ra : Rd w ao an a) (rl : Rd w lo ln l) (ss : Sl so sn sc) (sa : Sl ao an ac) (sl : Sl lo ln lc) (hN1 : -9223372036854775808 ≤ N) (hN2 : N ≤ 9223372036854775807) :
    Calls Try.prog 8 #[.agg #[.int .i64 K, .slice so sn sc, .slice ao an ac, .slice uo tn tc, .slice bo bn bc, .int .i64 N, .int .i64 I, .slice lo ln lc]] w fun e w' => ∃ v, e = .returned (.tuple #[.agg #[v.1, v.2], .bool false]) ∧ ArB w' w.heap.size v ([], []) ∧ Below w.heap.size w w' := by
  have k0 := box_below w (.cells #[.int .i64 K, .slice so sn sc, .slice ao an ac, .slice uo tn tc, .slice bo bn bc, .int .i64 N, .int .i64 I, .slice lo ln lc] 38)
  have k1 := box_below (w.alloc (.cells #[.int .i64 K, .slice so sn sc, .slice ao an ac, .slice uo tn tc, .slice bo bn bc, .int .i64 N, .int .i64 I, .slice lo ln lc] 38)) (.cells #[.slice none 0 0, .slice none 0 0] 36)
  have K1 := k0.trans (k1.mono k0.size)
  have r1 := allocNew (w.alloc (.cells #[.int .i64 K, .slice so sn sc, .slice ao an ac, .slice uo tn tc, .slice bo bn bc, .int .i64 N, .int .i64 I, .slice lo ln lc] 38)) (.cells #[.slice none 0 0, .slice none 0 0] 36)
  rw [World.size_alloc] at r1
  have hk := k1.size
  have t2 : (K == 2) = false := by simp [h2]
  have t3 : (K == 3) = false := by simp [h3]
  have t4 : (K == 4) = false := by simp [h4]
  have t7 : (K == 7) = false := by simp [h7]
  obtain ⟨y0, y1, _, _⟩ := box2 r1
  go_enter Try.func8, Try.ntmps8
  go_wp2
  (try simp only [Exit.inBlock, Exit.then])
  refine bodyPost_ret (v := .tuple #[.agg #[.slice none 0 0, .slice none 0 0], .bool false]) (by rw [results_cell_tmp rfl]; go_simp) rfl ?_
  exact ⟨(.slice none 0 0, .slice none 0 0), rfl, ⟨_, _, _, _, _, _, rfl, Ft.nil _ _ _, Ft.nil _ _ _⟩, K1⟩
theorem answered_any (K N I : Int) (hN1 : -9223372036854775808 ≤ N) (hN2 : N ≤ 9223372036854775807) (x y : Value × Value) (g : Value) (zx : List Int × List Int) (l : List Int) (w : World) (hx : Arw w x zx) (hy : ∃ uo tn tc bo bn bc, y = (.slice uo tn tc, .slice bo bn bc)) (hg : ∃ lo ln lc, g = .slice lo ln lc ∧ Ft 2 w 0 lo ln lc l) :
    Calls Try.prog 8 #[.agg #[.int .i64 K, x.1, x.2, y.1, y.2, .int .i64 N, .int .i64 I, g]] w fun e w' => ∃ v, e = .returned (.tuple #[.agg #[v.1, v.2], .bool (ansB K)]) ∧ ArB w' w.heap.size v (ansC K N I zx.1 zx.2 l) ∧ Below w.heap.size w w' := by
  obtain ⟨so, sn, sc, ao, an, ac, rfl, f1, f2⟩ := hx
  obtain ⟨uo, tn, tc, bo, bn, bc, rfl⟩ := hy
  obtain ⟨lo, ln, lc, rfl, f3⟩ := hg
  by_cases h2 : K = 2
  · subst h2
    exact ans2 N I so ao uo bo lo sn sc an ac tn tc bn bc ln lc zx.1 zx.2 l w f1.rd f2.rd f3.rd f1.sl f2.sl f3.sl hN1 hN2
  by_cases h3 : K = 3
  · subst h3
    exact ans3 N I so ao uo bo lo sn sc an ac tn tc bn bc ln lc zx.1 zx.2 l w f1.rd f2.rd f3.rd f1.sl f2.sl f3.sl hN1 hN2
  by_cases h4 : K = 4
  · subst h4
    exact ans4 N I so ao uo bo lo sn sc an ac tn tc bn bc ln lc zx.1 zx.2 l w f1.rd f2.rd f3.rd f1.sl f2.sl f3.sl hN1 hN2
  by_cases h7 : K = 7
  · subst h7
    exact ans7 N I so ao uo bo lo sn sc an ac tn tc bn bc ln lc zx.1 zx.2 l w f1.rd f2.rd f3.rd f1.sl f2.sl f3.sl hN1 hN2
  have e1 : ansB K = false := by simp [ansB, h2, h3, h4, h7]
  have e2 : ansC K N I zx.1 zx.2 l = ([], []) := by simp [ansC, h2, h3, h4, h7]
  rw [e1, e2]
  exact ans0 K h2 h3 h4 h7 N I so ao uo bo lo sn sc an ac tn tc bn bc ln lc zx.1 zx.2 l w f1.rd f2.rd f3.rd f1.sl f2.sl f3.sl hN1 hN2
end Go.Proofs.Ythncgocjegalhaa
