
/- A call of the law of layer 3. -/

import Derived.Test.YtkplfnajhinkiaaP4
import Derived.Test.YtkplfnajhinkiaaQ0


namespace Go.Proofs.Ytkplfnajhinkiaa

open Go.RowKit

set_option linter.unusedVariables false

set_option maxHeartbeats 20000000 in
set_option maxRecDepth 20000 in
theorem plays_Item (hb gb B : Nat) (K N I : Int) (so : Option Addr) (sn sc : Nat) (ao : Option Addr) (an ac : Nat) (uo : Option Addr) (tn tc : Nat) (bo : Option Addr) (bn bc : Nat) (lo : Option Addr) (ln lc : Nat) (s a t b l : List Int) (go0 go1 ho0 ho1 : Option Addr) (n0 n1 m0 m1 : Nat) (w : World) (rs : Rd w so sn s) (ra : Rd w ao an a) (rt : Rd w uo tn t) (rb : Rd w bo bn b) (rl : Rd w lo ln l) (ls : (0 < sn → ∀ b off, so = some ⟨b, off, none⟩ → b < B)) (la : (0 < an → ∀ b off, ao = some ⟨b, off, none⟩ → b < B)) (lt : (0 < tn → ∀ b off, uo = some ⟨b, off, none⟩ → b < B)) (lb : (0 < bn → ∀ b off, bo = some ⟨b, off, none⟩ → b < B)) (ll : (0 < ln → ∀ b off, lo = some ⟨b, off, none⟩ → b < B)) (hB : B ≤ w.heap.size) (h : Hx w B hb go0 n0 go1 n1) (g : Hx w B gb ho0 m0 ho1 m1) (d : Dis hb gb go0 go1 ho0 ho1) (ss : Sl so sn sc) (sa : Sl ao an ac) (st : Sl uo tn tc) (sb : Sl bo bn bc) (sl : Sl lo ln lc) (hI1 : -9223372036854775808 ≤ I) (hI2 : I ≤ 9223372036854775807) (hk : K = 7) :
    Calls Try.prog 19 #[.agg #[.int .i64 K, .slice so sn sc, .slice ao an ac, .slice uo tn tc, .slice bo bn bc, .int .i64 N, .int .i64 I, .slice lo ln lc], .pointer (some ⟨hb, 0, none⟩), .pointer (some ⟨gb, 0, none⟩)] w fun e w' => e = .returned (.bool true) ∧ ∃ r0 r1 q0 q1, (∃ m0 m1, Hx w' B hb r0 m0 r1 m1) ∧ (∃ m0 m1, Hx w' B gb q0 m0 q1 m1) ∧ Dis hb gb r0 r1 q0 q1 ∧ Below B w w' := by
  have bb := box_below w (.cells #[.int .i64 K, .slice so sn sc, .slice ao an ac, .slice uo tn tc, .slice bo bn bc, .int .i64 N, .int .i64 I, .slice lo ln lc] 57)
  have A0 : Ar (w.alloc (.cells #[.int .i64 K, .slice so sn sc, .slice ao an ac, .slice uo tn tc, .slice bo bn bc, .int .i64 N, .int .i64 I, .slice lo ln lc] 57)) B w.heap.size K N I so sn sc ao an ac uo tn tc bo bn bc lo ln lc s a t b l := ⟨allocNew _ _, rs.below bb (Nat.le_refl _), ra.below bb (Nat.le_refl _), rt.below bb (Nat.le_refl _), rb.below bb (Nat.le_refl _), rl.below bb (Nat.le_refl _), ls, la, lt, lb, ll, Nat.le_trans hB bb.size⟩
  have h0 : Hx (w.alloc (.cells #[.int .i64 K, .slice so sn sc, .slice ao an ac, .slice uo tn tc, .slice bo bn bc, .int .i64 N, .int .i64 I, .slice lo ln lc] 57)) B hb go0 n0 go1 n1 := h.kept (S := fun _ => False) (Kp.ofBelow bb) (fun _ e => e.elim)
  have g0 : Hx (w.alloc (.cells #[.int .i64 K, .slice so sn sc, .slice ao an ac, .slice uo tn tc, .slice bo bn bc, .int .i64 N, .int .i64 I, .slice lo ln lc] 57)) B gb ho0 m0 ho1 m1 := g.kept (S := fun _ => False) (Kp.ofBelow bb) (fun _ e => e.elim)
  have c1 := call_lay1 A0 h0 g0 d ss sa
  have B0 := A0.szB
  have bw : Below B w (w.alloc (.cells #[.int .i64 K, .slice so sn sc, .slice ao an ac, .slice uo tn tc, .slice bo bn bc, .int .i64 N, .int .i64 I, .slice lo ln lc] 57)) := ⟨bb.os, bb.tape, bb.output, bb.size, fun j hj => bb.block j (by omega)⟩
  clear A0 h0 g0 h g rs ra rt rb rl ls la lt lb ll
  have t1 : (K == 1) = false := by simp; omega
  have t2 : (K == 2) = false := by simp; omega
  have t3 : (K == 3) = false := by simp; omega
  have t4 : (K == 4) = false := by simp; omega
  have t5 : (K == 5) = false := by simp; omega
  have t6 : (K == 6) = false := by simp; omega
  have t7 : (K == 7) = true := by simp; omega
  have t8 : (K == 8) = false := by simp; omega
  have tt : (itmE s a I == itmE s a I) = true := by simp
  clear hk
  go_enter Try.func19, Try.ntmps19
  go_wp2_with (first
    | (go_at_call 69; (with_reducible refine c1.mono ?_); rintro e w1 ⟨xo, xc, yo, yc, r0, r1, rfl, T1⟩; have T1' := T1.below B0 (box_below w1 (.cells #[.slice xo sn xc, .slice yo an yc] 55)); obtain ⟨_, _, _, z3, z4, _, _, _⟩ := box8 T1'.ar.op; have c2 := call_lay2 T1' (allocNew w1 (.cells #[.slice xo sn xc, .slice yo an yc] 55)) st sb; clear T1 T1')
    | (go_at_call 69; (with_reducible refine c2.mono ?_); rintro e w2 ⟨zo, zc, vo, vc, q0, q1, rfl, F2, A2⟩; obtain ⟨P, bP⟩ := F2 w2.heap.size _ (box_below w2 (.cells #[.slice zo tn zc, .slice vo bn vc] 55)) (allocNew w2 (.cells #[.slice zo tn zc, .slice vo bn vc] 55)); obtain ⟨k0, k1, k2, k3, k4, k5, k6, k7, k8, k9, k10, k11, _⟩ := P.all; have M : Pm (w.alloc (.cells #[.int .i64 K, .slice so sn sc, .slice ao an ac, .slice uo tn tc, .slice bo bn bc, .int .i64 N, .int .i64 I, .slice lo ln lc] 57)) (w1.alloc (.cells #[.slice xo sn xc, .slice yo an yc] 55)) (w2.alloc (.cells #[.slice zo tn zc, .slice vo bn vc] 55)) B hb gb w.heap.size w1.heap.size w2.heap.size K N I so sn sc ao an ac uo tn tc bo bn bc lo ln lc s a t b l go0 go1 ho0 ho1 xo xc yo yc zo zc vo vc r0 r1 q0 q1 := ⟨P, bP⟩; clear F2 A2)
    | (go_at_call 63; (with_reducible refine (item_any xo yo sn xc an yc s a I _ M.p.h.s M.p.h.ss M.p.h.a M.p.h.sa).mono ?_); rintro e w5 ⟨o1, n1, c1, o2, n2, c2, rfl, F1, F2, _, b5⟩; have a5 := box_below w5 (.cells #[.slice o1 n1 c1, .slice o2 n2 c2] 55); have M5 := (M.below b5).below a5; have x5 := allocNew w5 (.cells #[.slice o1 n1 c1, .slice o2 n2 c2] 55); have R1 := F1.rd.below a5 (Nat.le_refl _); have R2 := F2.rd.below a5 (Nat.le_refl _); clear F1 F2 P bP; clear k0 k1 k2 k3 k4 k5 k6 k7 k8 k9 k10 k11; obtain ⟨k0, k1, k2, k3, k4, k5, k6, k7, k8, k9, k10, k11, _⟩ :=  M5.all)
    | (go_at_call 77; (with_reducible refine (refItem_any so ao sn sc an ac s a I _ M5.p.ar.rs ss M5.p.ar.ra sa hI1 hI2).mono ?_); rintro e w6 ⟨p1, l1, d1, p2, l2, d2, rfl, G1, G2, b6⟩; have a6 := box_below w6 (.cells #[.slice p1 l1 d1, .slice p2 l2 d2] 55); have M6 := (M5.below b6).below a6; have lx := (Array.getElem?_eq_some_iff.1 x5).1; have x6 := (a6.block _ (Nat.lt_of_lt_of_le lx b6.size)).trans ((b6.block _ lx).trans x5); have y6 := allocNew w6 (.cells #[.slice p1 l1 d1, .slice p2 l2 d2] 55); have R3 := (R1.below b6 (Nat.le_refl _)).below a6 (Nat.le_refl _); have R4 := (R2.below b6 (Nat.le_refl _)).below a6 (Nat.le_refl _); have R5 := G1.below a6 (Nat.le_refl _); have R6 := G2.below a6 (Nat.le_refl _); clear lx x5 R1 R2 G1 G2; clear k0 k1 k2 k3 k4 k5 k6 k7 k8 k9 k10 k11; obtain ⟨k0, k1, k2, k3, k4, k5, k6, k7, k8, k9, k10, k11, _⟩ :=  M6.all; obtain ⟨xx0, xx1, _, _⟩ := box2 x6; obtain ⟨yy0, yy1, _, _⟩ := box2 y6)
    | (go_at_call 25; (with_reducible refine (eq_same _ o1 o2 p1 p2 n1 c1 n2 c2 l1 d1 l2 d2 (itmS s a I) (itmA s a I) R3 R4 R5 R6).mono ?_); rintro e w7 ⟨rfl, b7⟩; have M7 := M6.below b7; have P := M7.p; have bP := M7.bl; clear k0 k1 k2 k3 k4 k5 k6 k7 k8 k9 k10 k11; obtain ⟨k0, k1, k2, k3, k4, k5, k6, k7, k8, k9, k10, k11, _⟩ :=  M7.all)
    | (go_at_call 79; (with_reducible refine (call_kept1 P).mono ?_); rintro e w3 ⟨rfl, T3, b3⟩; obtain ⟨y0, y1, y2, y3, y4, _, _, _⟩ := box8 T3.ar.op)
    | (go_at_call 79; (with_reducible refine (call_kept2 T3).mono ?_); rintro e w4 ⟨rfl, hx, gx, dx, b4⟩)
    | fail)
  go_returns
  exact ⟨rfl, _, _, _, _, hx, gx, dx, below_tr bw (below_tr bP (below_tr b3 b4))⟩
end Go.Proofs.Ytkplfnajhinkiaa
