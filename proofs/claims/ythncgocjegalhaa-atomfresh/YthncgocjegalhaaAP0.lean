
/- The law's own calls: asked and meant. -/

import Derived.Test.YthncgocjegalhaaT5

namespace Go.Proofs.Ythncgocjegalhaa

open Go.RowKit

set_option linter.unusedVariables false

theorem ft_box {e : TypeId} {w : World} {B : Nat} {ao : Option Addr} {n cap : Nat} {zs : List Int} (h : Ft e w B ao n cap zs) {j off r : Nat} (ea : ao = some ⟨j, off, none⟩) {cs : Array Value} (hr : w.heap[r]? = some (.cells cs 36 (0, 0))) (e' : some j = some r) (he : e ≠ 36 := by decide) : False := by
  simp only [Option.some.injEq] at e'
  subst e'
  obtain ⟨g, c, cur, h1, h2, h3, _⟩ := (h.own.2.resolve_left (fun x => by have := x.1; rw [ea] at this; cases this))
  rw [ea] at h1
  have : j = g := by simp at h1; exact h1.1.1
  subst this
  rw [hr] at h3
  simp only [Option.some.injEq, Obj.cells.injEq] at h3
  exact he h3.2.1.symm
set_option maxHeartbeats 2000000 in
set_option maxRecDepth 20000 in
theorem asked2 (O N : Int) (so ao uo bo : Option Addr) (sn sc an ac tn tc bn bc : Nat) (s a t b : List Int) (w : World) (rs : Rd w so sn s) (ra : Rd w ao an a) (rt : Rd w uo tn t) (rb : Rd w bo bn b) (ss : Sl so sn sc) (st : Sl uo tn tc) :
    Calls Try.prog 15 #[.agg #[.int .i64 2, .int .i64 O, .int .i64 N, .slice so sn sc, .slice ao an ac, .slice uo tn tc, .slice bo bn bc]] w fun e w' => ∃ o1 n1 c1 o2 n2 c2, e = .returned (.tuple #[.agg #[.slice o1 n1 c1, .slice o2 n2 c2], .int .i64 (moE O t b)]) ∧ Ft 3 w' w.heap.size o1 n1 c1 (moS O t b) ∧ Ft 2 w' w.heap.size o2 n2 c2 (moA O t b) ∧ Below w.heap.size w w' := by
  have k0 := box_below w (.cells #[.int .i64 2, .int .i64 O, .int .i64 N, .slice so sn sc, .slice ao an ac, .slice uo tn tc, .slice bo bn bc] 48)
  have k1 := box_below (w.alloc (.cells #[.int .i64 2, .int .i64 O, .int .i64 N, .slice so sn sc, .slice ao an ac, .slice uo tn tc, .slice bo bn bc] 48)) (.cells #[.slice none 0 0, .slice none 0 0] 36)
  have K1 := k0.trans (k1.mono k0.size)
  have r1 := allocNew (w.alloc (.cells #[.int .i64 2, .int .i64 O, .int .i64 N, .slice so sn sc, .slice ao an ac, .slice uo tn tc, .slice bo bn bc] 48)) (.cells #[.slice none 0 0, .slice none 0 0] 36)
  rw [World.size_alloc] at r1
  have cM := monad_any O uo bo tn tc bn bc t b _ (rt.below K1 (Nat.le_refl _)) (rb.below K1 (Nat.le_refl _))
  generalize moE O t b = E at *
  generalize moS O t b = S at *
  generalize moA O t b = A at *
  go_enter Try.func15, Try.ntmps15
  go_wp2_with (go_at_call 26; (with_reducible refine cM.mono ?_); rintro e W2 ⟨o1, n1, c1, o2, n2, c2, rfl, f1, f2, k2⟩; have K2 := K1.trans (k2.mono K1.size); have r2 := (k2.block _ (Array.getElem?_eq_some_iff.1 r1).1).trans r1; have kb := box_below W2 (.cells #[.slice o1 n1 c1, .slice o2 n2 c2] 36); have K3 := K2.trans (kb.mono K2.size); have r3 := (kb.block _ (Array.getElem?_eq_some_iff.1 r2).1).trans r2; have g1 := f1.below kb (Nat.le_refl _); have g2 := f2.below kb (Nat.le_refl _); obtain ⟨y0, y1, _, _⟩ := box2 r3; have h2 := k1.size)
  (try simp only [Exit.inBlock, Exit.then])
  refine bodyPost_ret (v := .tuple #[.agg #[.slice o1 n1 c1, .slice o2 n2 c2], .int .i64 E]) (by rw [results_cell_tmp rfl]; go_simp) rfl ?_
  refine ⟨_, _, _, _, _, _, rfl, (g1.keep1 (set2 _ _ _ _ _ _) (fun j off e e' => ft_box g1 e r3 e')).mono (by simp; omega), (g2.keep1 (set2 _ _ _ _ _ _) (fun j off e e' => ft_box g2 e r3 e')).mono (by simp; omega), below_set2 _ _ _ _ K3 (by omega) (Nat.le_refl _)⟩
set_option maxHeartbeats 2000000 in
set_option maxRecDepth 20000 in
theorem asked3 (O N : Int) (so ao uo bo : Option Addr) (sn sc an ac tn tc bn bc : Nat) (s a t b : List Int) (w : World) (rs : Rd w so sn s) (ra : Rd w ao an a) (rt : Rd w uo tn t) (rb : Rd w bo bn b) (ss : Sl so sn sc) (st : Sl uo tn tc) :
    Calls Try.prog 15 #[.agg #[.int .i64 3, .int .i64 O, .int .i64 N, .slice so sn sc, .slice ao an ac, .slice uo tn tc, .slice bo bn bc]] w fun e w' => ∃ o1 n1 c1 o2 n2 c2, e = .returned (.tuple #[.agg #[.slice o1 n1 c1, .slice o2 n2 c2], .int .i64 (ddE O s a t b)]) ∧ Ft 3 w' w.heap.size o1 n1 c1 (ddS O s a t b) ∧ Ft 2 w' w.heap.size o2 n2 c2 (ddA O s a t b) ∧ Below w.heap.size w w' := by
  have k0 := box_below w (.cells #[.int .i64 3, .int .i64 O, .int .i64 N, .slice so sn sc, .slice ao an ac, .slice uo tn tc, .slice bo bn bc] 48)
  have k1 := box_below (w.alloc (.cells #[.int .i64 3, .int .i64 O, .int .i64 N, .slice so sn sc, .slice ao an ac, .slice uo tn tc, .slice bo bn bc] 48)) (.cells #[.slice none 0 0, .slice none 0 0] 36)
  have K1 := k0.trans (k1.mono k0.size)
  have r1 := allocNew (w.alloc (.cells #[.int .i64 3, .int .i64 O, .int .i64 N, .slice so sn sc, .slice ao an ac, .slice uo tn tc, .slice bo bn bc] 48)) (.cells #[.slice none 0 0, .slice none 0 0] 36)
  rw [World.size_alloc] at r1
  have cM := dyad_any O so ao uo bo sn sc an ac tn tc bn bc s a t b _ (rs.below K1 (Nat.le_refl _)) (ra.below K1 (Nat.le_refl _)) (rt.below K1 (Nat.le_refl _)) (rb.below K1 (Nat.le_refl _)) ss st
  generalize ddE O s a t b = E at *
  generalize ddS O s a t b = S at *
  generalize ddA O s a t b = A at *
  go_enter Try.func15, Try.ntmps15
  go_wp2_with (go_at_call 28; (with_reducible refine cM.mono ?_); rintro e W2 ⟨o1, n1, c1, o2, n2, c2, rfl, f1, f2, k2⟩; have K2 := K1.trans (k2.mono K1.size); have r2 := (k2.block _ (Array.getElem?_eq_some_iff.1 r1).1).trans r1; have kb := box_below W2 (.cells #[.slice o1 n1 c1, .slice o2 n2 c2] 36); have K3 := K2.trans (kb.mono K2.size); have r3 := (kb.block _ (Array.getElem?_eq_some_iff.1 r2).1).trans r2; have g1 := f1.below kb (Nat.le_refl _); have g2 := f2.below kb (Nat.le_refl _); obtain ⟨y0, y1, _, _⟩ := box2 r3; have h2 := k1.size)
  (try simp only [Exit.inBlock, Exit.then])
  refine bodyPost_ret (v := .tuple #[.agg #[.slice o1 n1 c1, .slice o2 n2 c2], .int .i64 E]) (by rw [results_cell_tmp rfl]; go_simp) rfl ?_
  refine ⟨_, _, _, _, _, _, rfl, (g1.keep1 (set2 _ _ _ _ _ _) (fun j off e e' => ft_box g1 e r3 e')).mono (by simp; omega), (g2.keep1 (set2 _ _ _ _ _ _) (fun j off e e' => ft_box g2 e r3 e')).mono (by simp; omega), below_set2 _ _ _ _ K3 (by omega) (Nat.le_refl _)⟩
end Go.Proofs.Ythncgocjegalhaa
