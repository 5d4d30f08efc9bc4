
/- The law's own calls: asked and meant. -/

import Derived.Test.YtpkednlfhdpdhaaAD

namespace Go.Proofs.Ytpkednlfhdpdhaa

open Go.RowKit

set_option linter.unusedVariables false

set_option maxHeartbeats 2000000 in
set_option maxRecDepth 20000 in
theorem asked2 (O N : Int) (so ao uo bo : Option Addr) (sn sc an ac tn tc bn bc : Nat) (s a t b : List Int) (w : World) (rs : Rd w so sn s) (ra : Rd w ao an a) (rt : Rd w uo tn t) (rb : Rd w bo bn b) (ss : Sl so sn sc) (st : Sl uo tn tc) :
    Calls Try.prog 9 #[.agg #[.int .i64 2, .int .i64 O, .int .i64 N, .slice so sn sc, .slice ao an ac, .slice uo tn tc, .slice bo bn bc]] w fun e w' => ∃ o1 n1 c1 o2 n2 c2, e = .returned (.tuple #[.agg #[.slice o1 n1 c1, .slice o2 n2 c2], .int .i64 (moE O t b)]) ∧ Ft 3 w' w.heap.size o1 n1 c1 (moS O t b) ∧ Ft 2 w' w.heap.size o2 n2 c2 (moA O t b) ∧ Below w.heap.size w w' := by
  have k0 := box_below w (.cells #[.int .i64 2, .int .i64 O, .int .i64 N, .slice so sn sc, .slice ao an ac, .slice uo tn tc, .slice bo bn bc] 32)
  have k1 := box_below (w.alloc (.cells #[.int .i64 2, .int .i64 O, .int .i64 N, .slice so sn sc, .slice ao an ac, .slice uo tn tc, .slice bo bn bc] 32)) (.cells #[.slice none 0 0, .slice none 0 0] 30)
  have K1 := k0.trans (k1.mono k0.size)
  have r1 := allocNew (w.alloc (.cells #[.int .i64 2, .int .i64 O, .int .i64 N, .slice so sn sc, .slice ao an ac, .slice uo tn tc, .slice bo bn bc] 32)) (.cells #[.slice none 0 0, .slice none 0 0] 30)
  rw [World.size_alloc] at r1
  have cM := monad_any O uo bo tn tc bn bc t b _ (rt.below K1 (Nat.le_refl _)) (rb.below K1 (Nat.le_refl _))
  generalize moE O t b = E at *
  generalize moS O t b = S at *
  generalize moA O t b = A at *
  go_enter Try.func9, Try.ntmps9
  go_wp2_with (go_at_call 12; (with_reducible refine cM.mono ?_); rintro e W2 ⟨o1, n1, c1, o2, n2, c2, rfl, f1, f2, k2⟩; have K2 := K1.trans (k2.mono K1.size); have r2 := (k2.block _ (Array.getElem?_eq_some_iff.1 r1).1).trans r1; have kb := box_below W2 (.cells #[.slice o1 n1 c1, .slice o2 n2 c2] 30); have K3 := K2.trans (kb.mono K2.size); have r3 := (kb.block _ (Array.getElem?_eq_some_iff.1 r2).1).trans r2; have g1 := f1.below kb (Nat.le_refl _); have g2 := f2.below kb (Nat.le_refl _); obtain ⟨y0, y1, _, _⟩ := box2 r3; have h2 := k1.size)
  (try simp only [Exit.inBlock, Exit.then])
  refine bodyPost_ret (v := .tuple #[.agg #[.slice o1 n1 c1, .slice o2 n2 c2], .int .i64 E]) (by rw [results_cell_tmp rfl]; go_simp) rfl ?_
  refine ⟨_, _, _, _, _, _, rfl, (g1.keep1 (set2 _ _ _ _ _ _) (fun j off e e' => ft_box g1 e r3 e')).mono (by simp; omega), (g2.keep1 (set2 _ _ _ _ _ _) (fun j off e e' => ft_box g2 e r3 e')).mono (by simp; omega), below_set2 _ _ _ _ K3 (by omega) (Nat.le_refl _)⟩
set_option maxHeartbeats 2000000 in
set_option maxRecDepth 20000 in
theorem asked3 (O N : Int) (so ao uo bo : Option Addr) (sn sc an ac tn tc bn bc : Nat) (s a t b : List Int) (w : World) (rs : Rd w so sn s) (ra : Rd w ao an a) (rt : Rd w uo tn t) (rb : Rd w bo bn b) (ss : Sl so sn sc) (st : Sl uo tn tc) :
    Calls Try.prog 9 #[.agg #[.int .i64 3, .int .i64 O, .int .i64 N, .slice so sn sc, .slice ao an ac, .slice uo tn tc, .slice bo bn bc]] w fun e w' => ∃ o1 n1 c1 o2 n2 c2, e = .returned (.tuple #[.agg #[.slice o1 n1 c1, .slice o2 n2 c2], .int .i64 (ddE O s a t b)]) ∧ Ft 3 w' w.heap.size o1 n1 c1 (ddS O s a t b) ∧ Ft 2 w' w.heap.size o2 n2 c2 (ddA O s a t b) ∧ Below w.heap.size w w' := by
  have k0 := box_below w (.cells #[.int .i64 3, .int .i64 O, .int .i64 N, .slice so sn sc, .slice ao an ac, .slice uo tn tc, .slice bo bn bc] 32)
  have k1 := box_below (w.alloc (.cells #[.int .i64 3, .int .i64 O, .int .i64 N, .slice so sn sc, .slice ao an ac, .slice uo tn tc, .slice bo bn bc] 32)) (.cells #[.slice none 0 0, .slice none 0 0] 30)
  have K1 := k0.trans (k1.mono k0.size)
  have r1 := allocNew (w.alloc (.cells #[.int .i64 3, .int .i64 O, .int .i64 N, .slice so sn sc, .slice ao an ac, .slice uo tn tc, .slice bo bn bc] 32)) (.cells #[.slice none 0 0, .slice none 0 0] 30)
  rw [World.size_alloc] at r1
  have cM := dyad_any O so ao uo bo sn sc an ac tn tc bn bc s a t b _ (rs.below K1 (Nat.le_refl _)) (ra.below K1 (Nat.le_refl _)) (rt.below K1 (Nat.le_refl _)) (rb.below K1 (Nat.le_refl _)) ss st
  generalize ddE O s a t b = E at *
  generalize ddS O s a t b = S at *
  generalize ddA O s a t b = A at *
  go_enter Try.func9, Try.ntmps9
  go_wp2_with (go_at_call 14; (with_reducible refine cM.mono ?_); rintro e W2 ⟨o1, n1, c1, o2, n2, c2, rfl, f1, f2, k2⟩; have K2 := K1.trans (k2.mono K1.size); have r2 := (k2.block _ (Array.getElem?_eq_some_iff.1 r1).1).trans r1; have kb := box_below W2 (.cells #[.slice o1 n1 c1, .slice o2 n2 c2] 30); have K3 := K2.trans (kb.mono K2.size); have r3 := (kb.block _ (Array.getElem?_eq_some_iff.1 r2).1).trans r2; have g1 := f1.below kb (Nat.le_refl _); have g2 := f2.below kb (Nat.le_refl _); obtain ⟨y0, y1, _, _⟩ := box2 r3; have h2 := k1.size)
  (try simp only [Exit.inBlock, Exit.then])
  refine bodyPost_ret (v := .tuple #[.agg #[.slice o1 n1 c1, .slice o2 n2 c2], .int .i64 E]) (by rw [results_cell_tmp rfl]; go_simp) rfl ?_
  refine ⟨_, _, _, _, _, _, rfl, (g1.keep1 (set2 _ _ _ _ _ _) (fun j off e e' => ft_box g1 e r3 e')).mono (by simp; omega), (g2.keep1 (set2 _ _ _ _ _ _) (fun j off e e' => ft_box g2 e r3 e')).mono (by simp; omega), below_set2 _ _ _ _ K3 (by omega) (Nat.le_refl _)⟩
set_option maxHeartbeats 2000000 in
set_option maxRecDepth 20000 in
theorem meant2 (O N : Int) (so ao uo bo : Option Addr) (sn sc an ac tn tc bn bc : Nat) (s a t b : List Int) (w : World) (rs : Rd w so sn s) (ra : Rd w ao an a) (rt : Rd w uo tn t) (rb : Rd w bo bn b) (ss : Sl so sn sc) (st : Sl uo tn tc) :
    Calls Try.prog 7 #[.agg #[.int .i64 2, .int .i64 O, .int .i64 N, .slice so sn sc, .slice ao an ac, .slice uo tn tc, .slice bo bn bc]] w fun e w' => ∃ o1 n1 c1 o2 n2 c2, e = .returned (.tuple #[.agg #[.slice o1 n1 c1, .slice o2 n2 c2], .int .i64 (moE O t b)]) ∧ Ft 3 w' w.heap.size o1 n1 c1 (moS O t b) ∧ Ft 2 w' w.heap.size o2 n2 c2 (moA O t b) ∧ Below w.heap.size w w' := by
  have k0 := box_below w (.cells #[.int .i64 2, .int .i64 O, .int .i64 N, .slice so sn sc, .slice ao an ac, .slice uo tn tc, .slice bo bn bc] 32)
  have k1 := box_below (w.alloc (.cells #[.int .i64 2, .int .i64 O, .int .i64 N, .slice so sn sc, .slice ao an ac, .slice uo tn tc, .slice bo bn bc] 32)) (.cells #[.slice none 0 0, .slice none 0 0] 30)
  have K1 := k0.trans (k1.mono k0.size)
  have r1 := allocNew (w.alloc (.cells #[.int .i64 2, .int .i64 O, .int .i64 N, .slice so sn sc, .slice ao an ac, .slice uo tn tc, .slice bo bn bc] 32)) (.cells #[.slice none 0 0, .slice none 0 0] 30)
  rw [World.size_alloc] at r1
  have cM := rmon_any O uo bo tn tc bn bc t b _ (rt.below K1 (Nat.le_refl _)) (rb.below K1 (Nat.le_refl _))
  generalize moE O t b = E at *
  generalize moS O t b = S at *
  generalize moA O t b = A at *
  go_enter Try.func7, Try.ntmps7
  go_wp2_with (go_at_call 18; (with_reducible refine cM.mono ?_); rintro e W2 ⟨o1, n1, c1, o2, n2, c2, rfl, f1, f2, k2⟩; have K2 := K1.trans (k2.mono K1.size); have r2 := (k2.block _ (Array.getElem?_eq_some_iff.1 r1).1).trans r1; have kb := box_below W2 (.cells #[.slice o1 n1 c1, .slice o2 n2 c2] 30); have K3 := K2.trans (kb.mono K2.size); have r3 := (kb.block _ (Array.getElem?_eq_some_iff.1 r2).1).trans r2; have g1 := f1.below kb (Nat.le_refl _); have g2 := f2.below kb (Nat.le_refl _); obtain ⟨y0, y1, _, _⟩ := box2 r3; have h2 := k1.size)
  (try simp only [Exit.inBlock, Exit.then])
  refine bodyPost_ret (v := .tuple #[.agg #[.slice o1 n1 c1, .slice o2 n2 c2], .int .i64 E]) (by rw [results_cell_tmp rfl]; go_simp) rfl ?_
  refine ⟨_, _, _, _, _, _, rfl, (g1.keep1 (set2 _ _ _ _ _ _) (fun j off e e' => ft_box g1 e r3 e')).mono (by simp; omega), (g2.keep1 (set2 _ _ _ _ _ _) (fun j off e e' => ft_box g2 e r3 e')).mono (by simp; omega), below_set2 _ _ _ _ K3 (by omega) (Nat.le_refl _)⟩
set_option maxHeartbeats 2000000 in
set_option maxRecDepth 20000 in
theorem meant3 (O N : Int) (so ao uo bo : Option Addr) (sn sc an ac tn tc bn bc : Nat) (s a t b : List Int) (w : World) (rs : Rd w so sn s) (ra : Rd w ao an a) (rt : Rd w uo tn t) (rb : Rd w bo bn b) (ss : Sl so sn sc) (st : Sl uo tn tc) :
    Calls Try.prog 7 #[.agg #[.int .i64 3, .int .i64 O, .int .i64 N, .slice so sn sc, .slice ao an ac, .slice uo tn tc, .slice bo bn bc]] w fun e w' => ∃ o1 n1 c1 o2 n2 c2, e = .returned (.tuple #[.agg #[.slice o1 n1 c1, .slice o2 n2 c2], .int .i64 (ddE O s a t b)]) ∧ Ft 3 w' w.heap.size o1 n1 c1 (ddS O s a t b) ∧ Ft 2 w' w.heap.size o2 n2 c2 (ddA O s a t b) ∧ Below w.heap.size w w' := by
  have k0 := box_below w (.cells #[.int .i64 3, .int .i64 O, .int .i64 N, .slice so sn sc, .slice ao an ac, .slice uo tn tc, .slice bo bn bc] 32)
  have k1 := box_below (w.alloc (.cells #[.int .i64 3, .int .i64 O, .int .i64 N, .slice so sn sc, .slice ao an ac, .slice uo tn tc, .slice bo bn bc] 32)) (.cells #[.slice none 0 0, .slice none 0 0] 30)
  have K1 := k0.trans (k1.mono k0.size)
  have r1 := allocNew (w.alloc (.cells #[.int .i64 3, .int .i64 O, .int .i64 N, .slice so sn sc, .slice ao an ac, .slice uo tn tc, .slice bo bn bc] 32)) (.cells #[.slice none 0 0, .slice none 0 0] 30)
  rw [World.size_alloc] at r1
  have cM := rdy_any O so ao uo bo sn sc an ac tn tc bn bc s a t b _ (rs.below K1 (Nat.le_refl _)) (ra.below K1 (Nat.le_refl _)) (rt.below K1 (Nat.le_refl _)) (rb.below K1 (Nat.le_refl _))
  generalize ddE O s a t b = E at *
  generalize ddS O s a t b = S at *
  generalize ddA O s a t b = A at *
  go_enter Try.func7, Try.ntmps7
  go_wp2_with (go_at_call 19; (with_reducible refine cM.mono ?_); rintro e W2 ⟨o1, n1, c1, o2, n2, c2, rfl, f1, f2, k2⟩; have K2 := K1.trans (k2.mono K1.size); have r2 := (k2.block _ (Array.getElem?_eq_some_iff.1 r1).1).trans r1; have kb := box_below W2 (.cells #[.slice o1 n1 c1, .slice o2 n2 c2] 30); have K3 := K2.trans (kb.mono K2.size); have r3 := (kb.block _ (Array.getElem?_eq_some_iff.1 r2).1).trans r2; have g1 := f1.below kb (Nat.le_refl _); have g2 := f2.below kb (Nat.le_refl _); obtain ⟨y0, y1, _, _⟩ := box2 r3; have h2 := k1.size)
  (try simp only [Exit.inBlock, Exit.then])
  refine bodyPost_ret (v := .tuple #[.agg #[.slice o1 n1 c1, .slice o2 n2 c2], .int .i64 E]) (by rw [results_cell_tmp rfl]; go_simp) rfl ?_
  refine ⟨_, _, _, _, _, _, rfl, (g1.keep1 (set2 _ _ _ _ _ _) (fun j off e e' => ft_box g1 e r3 e')).mono (by simp; omega), (g2.keep1 (set2 _ _ _ _ _ _) (fun j off e e' => ft_box g2 e r3 e')).mono (by simp; omega), below_set2 _ _ _ _ K3 (by omega) (Nat.le_refl _)⟩
end Go.Proofs.Ytpkednlfhdpdhaa
