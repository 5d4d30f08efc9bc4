
/- Contract: the cells of two arrays that agree. -/

import Derived.Test.YtjllmfahmlfljaaD3

namespace Go.Proofs.Ytjllmfahmlfljaa

open Go.RowKit

set_option linter.unusedVariables false

set_option maxHeartbeats 8000000 in
set_option maxRecDepth 20000 in
theorem two_ok (so ao to bo : Option Addr) (sn sc an ac tn tc bn bc : Nat) (s a t b : List Int) (l r : Int) (w : World) (hs : Rd w so sn s) (ss : Sl so sn sc) (ha : Rd w ao an a) (sa : Sl ao an ac) (ht : Rd w to tn t) (st : Sl to tn tc) (hb : Rd w bo bn b) (sb : Sl bo bn bc) (l1 : -9223372036854775808 ≤ l) (l2 : l ≤ 9223372036854775807) (r1 : -9223372036854775808 ≤ r) (r2 : r ≤ 9223372036854775807) (h0 : mayA s a = 0) (h1 : mayA t b = 0) (h2 : agrE (frm s l) (frm t r) = 0) :
    Calls Try.prog 16 #[.agg #[.slice so sn sc, .slice ao an ac], .agg #[.slice to tn tc, .slice bo bn bc], .int .i64 l, .int .i64 r] w fun e w' => ∃ o5 n5 c5 gg gg2 u1 n1 c1 u2 n2 c2 u3 n3 c3 u4 n4 c4, e = .returned (.tuple #[.agg #[.slice o5 n5 c5, .slice (some ⟨gg, 0, none⟩) (npl s l) (npl s l), .slice (some ⟨gg2, 0, none⟩) (npl t r) (npl t r), .slice u1 n1 c1, .slice u2 n2 c2, .slice u3 n3 c3, .slice u4 n4 c4], .int .i64 0]) ∧ Ft 3 w' w.heap.size o5 n5 c5 (agrL (frm s l) (frm t r)) ∧ Ac w' gg (npl s l) (npl s l) (cls s a l) ∧ Ac w' gg2 (npl t r) (npl t r) (cls t b r) ∧ w.heap.size ≤ gg ∧ w.heap.size ≤ gg2 ∧ Ft 3 w' w.heap.size u1 n1 c1 (inn s l) ∧ Ft 2 w' w.heap.size u2 n2 c2 (List.replicate (clz s l) 0) ∧ Ft 3 w' w.heap.size u3 n3 c3 (inn t r) ∧ Ft 2 w' w.heap.size u4 n4 c4 (List.replicate (clz t r) 0) ∧ Below w.heap.size w w' := by
  have T0 := tw_start (sc := sc) (ac := ac) (tc := tc) (bc := bc) hs ha ht hb
  obtain ⟨p0, p1, _, _⟩ := box2 T0.x
  have o1 := one_ok so ao sn sc an ac s a l _ T0.s ss T0.a sa h0 l1 l2
  have o2 := fun V (x : Rd V to tn t) (y : Rd V bo bn b) => one_ok to bo tn tc bn bc t b r V x st y sb h1 r1 r2
  have ag := fun V fo fn fc fo2 fn2 fc2 (x : Ft 3 V w.heap.size fo fn fc (frm s l)) (y : Ft 3 V w.heap.size fo2 fn2 fc2 (frm t r)) => agree_any fo fo2 fn fn2 fc fc2 _ _ V x.rd y.rd x.sl y.sl
  rw [h2] at ag
  clear h0 h1 h2
  generalize npl s l = m1 at *
  generalize npl t r = m2 at *
  generalize agrL (frm s l) (frm t r) = LL at *
  generalize cls s a l = xs1 at *
  generalize cls t b r = xs2 at *
  generalize List.replicate (clz s l) (0 : Int) = z1 at *
  generalize List.replicate (clz t r) (0 : Int) = z2 at *
  have lw : w.heap.size ≤ (((w.alloc (.cells #[.slice so sn sc, .slice ao an ac] 25)).alloc (.cells #[.slice to tn tc, .slice bo bn bc] 25)).alloc (.cells #[.slice none 0 0, .slice none 0 0, .slice none 0 0, .slice none 0 0, .slice none 0 0, .slice none 0 0, .slice none 0 0] 42)).heap.size := T0.bel.size
  have ls : (((w.alloc (.cells #[.slice so sn sc, .slice ao an ac] 25)).alloc (.cells #[.slice to tn tc, .slice bo bn bc] 25)).alloc (.cells #[.slice none 0 0, .slice none 0 0, .slice none 0 0, .slice none 0 0, .slice none 0 0, .slice none 0 0, .slice none 0 0] 42)).heap.size = w.heap.size + 1 + 1 + 1 := by simp
  go_enter Try.func16, Try.ntmps16
  go_wp2_with (first
    | (go_at_call 10; (with_reducible refine o1.mono ?_); rintro e W1 ⟨fo, fn, fc, gg, u1, n1, c1, u2, n2, c2, rfl, F1, A1, hgg, L1, M1, k1⟩; have kb1 := box_below W1 (.cells #[.slice fo fn fc, .slice (some ⟨gg, 0, none⟩) m1 m1, .slice u1 n1 c1, .slice u2 n2 c2] 29); have x1 := allocNew W1 (.cells #[.slice fo fn fc, .slice (some ⟨gg, 0, none⟩) m1 m1, .slice u1 n1 c1, .slice u2 n2 c2] 29); have T1 := (T0.below k1).below kb1; obtain ⟨q0, q1, _, _⟩ := box2 T1.y)
    | (go_at_call 10; (with_reducible refine (o2 _ T1.t T1.b).mono ?_); rintro e W2 ⟨fo2, fn2, fc2, gg2, u3, n3, c3, u4, n4, c4, rfl, F2, A2, hgg2, L2, M2, k2⟩; have kb2 := box_below W2 (.cells #[.slice fo2 fn2 fc2, .slice (some ⟨gg2, 0, none⟩) m2 m2, .slice u3 n3 c3, .slice u4 n4 c4] 29); have x2 := allocNew W2 (.cells #[.slice fo2 fn2 fc2, .slice (some ⟨gg2, 0, none⟩) m2 m2, .slice u3 n3 c3, .slice u4 n4 c4] 29); have T2 := (T1.below k2).below kb2; have lx1 := (Array.getElem?_eq_some_iff.1 x1).1; have x1' := (kb2.block _ (Nat.lt_of_lt_of_le lx1 k2.size)).trans ((k2.block _ lx1).trans x1); obtain ⟨f0, f1, f2, f3, _, _, _, _⟩ := box4 x1'; obtain ⟨f4, f5, f6, f7, _, _, _, _⟩ := box4 x2; have F1' := (((F1.below kb1 (Nat.le_refl _)).below k2 (Nat.le_refl _)).below kb2 (Nat.le_refl _)).mono lw; have F2' := (F2.below kb2 (Nat.le_refl _)).mono (B' := w.heap.size) T1.bel.size)
    | (go_at_call 17; (with_reducible refine (ag _ _ _ _ _ _ _ F1' F2').mono ?_); rintro e W3 ⟨o5, n5, c5, rfl, F5, k5⟩; have T3 := T2.below k5; have kk := btw kb2 k5 kb2.size; have x1'' := (k5.block _ (Array.getElem?_eq_some_iff.1 x1').1).trans x1'; have x2'' := (k5.block _ (Array.getElem?_eq_some_iff.1 x2).1).trans x2; obtain ⟨i0, i1, i2, i3, _, _, _, _⟩ := box4 x1''; obtain ⟨i4, i5, i6, i7, _, _, _, _⟩ := box4 x2''; obtain ⟨⟨z0, z1, z2, z3, z4, z5, z6⟩, y0, y1, y2, y3, y4, y5, y6⟩ := box7 T3.r))
  (try simp only [Exit.inBlock, Exit.then])
  refine bodyPost_ret (v := .tuple #[.agg #[.slice o5 n5 c5, .slice (some ⟨gg, 0, none⟩) m1 m1, .slice (some ⟨gg2, 0, none⟩) m2 m2, .slice u1 n1 c1, .slice u2 n2 c2, .slice u3 n3 c3, .slice u4 n4 c4], .int .i64 0]) (by rw [results_cell_tmp rfl]; go_simp) rfl ?_
  have K := set7 W3 (w.heap.size + 1 + 1) (.slice o5 n5 c5) (.slice (some ⟨gg, 0, none⟩) m1 m1) (.slice (some ⟨gg2, 0, none⟩) m2 m2) (.slice u1 n1 c1) (.slice u2 n2 c2) (.slice u3 n3 c3) (.slice u4 n4 c4)
  have G5 := Fr.ft F5
  have sT1 := T1.bel.size
  have sT2 := T2.bel.size
  have tt : ∀ {e : TypeId} {o : Option Addr} {n c : Nat} {zs : List Int}, Ft e W1 (((w.alloc (.cells #[.slice so sn sc, .slice ao an ac] 25)).alloc (.cells #[.slice to tn tc, .slice bo bn bc] 25)).alloc (.cells #[.slice none 0 0, .slice none 0 0, .slice none 0 0, .slice none 0 0, .slice none 0 0, .slice none 0 0, .slice none 0 0] 42)).heap.size o n c zs → Ft e W3 (((w.alloc (.cells #[.slice so sn sc, .slice ao an ac] 25)).alloc (.cells #[.slice to tn tc, .slice bo bn bc] 25)).alloc (.cells #[.slice none 0 0, .slice none 0 0, .slice none 0 0, .slice none 0 0, .slice none 0 0, .slice none 0 0, .slice none 0 0] 42)).heap.size o n c zs := fun f => ((f.below kb1 (Nat.le_refl _)).below k2 (Nat.le_refl _)).below kk (Nat.le_refl _)
  have tv : ∀ {e : TypeId} {o : Option Addr} {n c : Nat} {zs : List Int}, Ft e W2 (W1.alloc (.cells #[.slice fo fn fc, .slice (some ⟨gg, 0, none⟩) m1 m1, .slice u1 n1 c1, .slice u2 n2 c2] 29)).heap.size o n c zs → Ft e W3 (W1.alloc (.cells #[.slice fo fn fc, .slice (some ⟨gg, 0, none⟩) m1 m1, .slice u1 n1 c1, .slice u2 n2 c2] 29)).heap.size o n c zs := fun f => f.below kk (Nat.le_refl _)
  have s1 := k1.size
  have e1 : (W1.alloc (.cells #[.slice fo fn fc, .slice (some ⟨gg, 0, none⟩) m1 m1, .slice u1 n1 c1, .slice u2 n2 c2] 29)).heap.size = W1.heap.size + 1 := by simp
  have a1 := A1.lt
  have fin : ∀ {e : TypeId} {o : Option Addr} {n c B : Nat} {zs : List Int}, Ft e W3 B o n c zs → w.heap.size + 1 + 1 < B → Ft e _ w.heap.size o n c zs := fun {e o n c B zs} f h => (f.keep1 K (fun b off e => by have := (f.at b off e).1; intro e'; simp only [Option.some.injEq] at e'; omega)).mono (by omega)
  have s2 := k2.size
  have e3 : (W2.alloc (.cells #[.slice fo2 fn2 fc2, .slice (some ⟨gg2, 0, none⟩) m2 m2, .slice u3 n3 c3, .slice u4 n4 c4] 29)).heap.size = W2.heap.size + 1 := by simp
  refine ⟨_, _, _, _, _, _, _, _, _, _, _, _, _, _, _, _, _, rfl, fin G5 (by omega), (((A1.below kb1).below k2).below kk).keep K (by omega), (A2.below kk).keep K (by omega), by omega, by omega, fin (tt L1) (by omega), fin (tt M1) (by omega), fin (tv L2) (by omega), fin (tv M2) (by omega), below_set7 _ _ _ _ _ _ _ T3.bel (by omega) (Nat.le_refl _)⟩
end Go.Proofs.Ytjllmfahmlfljaa
