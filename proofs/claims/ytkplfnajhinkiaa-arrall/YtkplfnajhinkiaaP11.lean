
/- A call of the law of layer 3. -/

import Derived.Test.YtkplfnajhinkiaaP4
import Derived.Test.YtkplfnajhinkiaaQ0


namespace Go.Proofs.Ytkplfnajhinkiaa

open Go.RowKit

set_option linter.unusedVariables false

set_option maxHeartbeats 20000000 in
set_option maxRecDepth 20000 in
theorem plays_Scalar (hb gb B : Nat) (K N I : Int) (so : Option Addr) (sn sc : Nat) (ao : Option Addr) (an ac : Nat) (uo : Option Addr) (tn tc : Nat) (bo : Option Addr) (bn bc : Nat) (lo : Option Addr) (ln lc : Nat) (s a t b l : List Int) (go0 go1 ho0 ho1 : Option Addr) (n0 n1 m0 m1 : Nat) (w : World) (rs : Rd w so sn s) (ra : Rd w ao an a) (rt : Rd w uo tn t) (rb : Rd w bo bn b) (rl : Rd w lo ln l) (ls : (0 < sn → ∀ b off, so = some ⟨b, off, none⟩ → b < B)) (la : (0 < an → ∀ b off, ao = some ⟨b, off, none⟩ → b < B)) (lt : (0 < tn → ∀ b off, uo = some ⟨b, off, none⟩ → b < B)) (lb : (0 < bn → ∀ b off, bo = some ⟨b, off, none⟩ → b < B)) (ll : (0 < ln → ∀ b off, lo = some ⟨b, off, none⟩ → b < B)) (hB : B ≤ w.heap.size) (h : Hx w B hb go0 n0 go1 n1) (g : Hx w B gb ho0 m0 ho1 m1) (d : Dis hb gb go0 go1 ho0 ho1) (ss : Sl so sn sc) (sa : Sl ao an ac) (st : Sl uo tn tc) (sb : Sl bo bn bc) (sl : Sl lo ln lc) (hN1 : -9223372036854775808 ≤ N) (hN2 : N ≤ 9223372036854775807) (hk : K = 2) :
    Calls Try.prog 19 #[.agg #[.int .i64 K, .slice so sn sc, .slice ao an ac, .slice uo tn tc, .slice bo bn bc, .int .i64 N, .int .i64 I, .slice lo ln lc], .pointer (some ⟨hb, 0, none⟩), .pointer (some ⟨gb, 0, none⟩)] w fun e w' => e = .returned (.bool true) ∧ ∃ r0 r1 q0 q1, (∃ m0 m1, Hx w' B hb r0 m0 r1 m1) ∧ (∃ m0 m1, Hx w' B gb q0 m0 q1 m1) ∧ Dis hb gb r0 r1 q0 q1 ∧ Below B w w' := by
  have bb := box_below w (.cells #[.int .i64 K, .slice so sn sc, .slice ao an ac, .slice uo tn tc, .slice bo bn bc, .int .i64 N, .int .i64 I, .slice lo ln lc] 57)
  have A0 : Ar (w.alloc (.cells #[.int .i64 K, .slice so sn sc, .slice ao an ac, .slice uo tn tc, .slice bo bn bc, .int .i64 N, .int .i64 I, .slice lo ln lc] 57)) B w.heap.size K N I so sn sc ao an ac uo tn tc bo bn bc lo ln lc s a t b l := ⟨allocNew _ _, rs.below bb (Nat.le_refl _), ra.below bb (Nat.le_refl _), rt.below bb (Nat.le_refl _), rb.below bb (Nat.le_refl _), rl.below bb (Nat.le_refl _), ls, la, lt, lb, ll, Nat.le_trans hB bb.size⟩
  have h0 : Hx (w.alloc (.cells #[.int .i64 K, .slice so sn sc, .slice ao an ac, .slice uo tn tc, .slice bo bn bc, .int .i64 N, .int .i64 I, .slice lo ln lc] 57)) B hb go0 n0 go1 n1 := h.kept (S := fun _ => False) (Kp.ofBelow bb) (fun _ e => e.elim)
  have g0 : Hx (w.alloc (.cells #[.int .i64 K, .slice so sn sc, .slice ao an ac, .slice uo tn tc, .slice bo bn bc, .int .i64 N, .int .i64 I, .slice lo ln lc] 57)) B gb ho0 m0 ho1 m1 := g.kept (S := fun _ => False) (Kp.ofBelow bb) (fun _ e => e.elim)
  have c1 := call_lay1 A0 h0 g0 d ss sa
  have B0 := A0.szB
  have bw : Below B w (w.alloc (.cells #[.int .i64 K, .slice so sn sc, .slice ao an ac, .slice uo tn tc, .slice bo bn bc, .int .i64 N, .int .i64 I, .slice lo ln lc] 57)) := ⟨bb.os, bb.tape, bb.output, bb.size, fun j hj => bb.block j (by omega)⟩
  clear A0 h0 g0 h g rs ra rt rb rl ls la lt lb ll
  have t1 : (K == 1) = false := by simp; omega
  have t2 : (K == 2) = true := by simp; omega
  have t3 : (K == 3) = false := by simp; omega
  have t4 : (K == 4) = false := by simp; omega
  have t5 : (K == 5) = false := by simp; omega
  have t6 : (K == 6) = false := by simp; omega
  have t7 : (K == 7) = false := by simp; omega
  have t8 : (K == 8) = false := by simp; omega
  clear hk
  go_enter Try.func19, Try.ntmps19
  go_wp2_with (first
    | (go_at_call 69; (with_reducible refine c1.mono ?_); rintro e w1 ⟨xo, xc, yo, yc, r0, r1, rfl, T1⟩; have T1' := T1.below B0 (box_below w1 (.cells #[.slice xo sn xc, .slice yo an yc] 55)); obtain ⟨_, _, _, z3, z4, _, _, _⟩ := box8 T1'.ar.op; have c2 := call_lay2 T1' (allocNew w1 (.cells #[.slice xo sn xc, .slice yo an yc] 55)) st sb; clear T1 T1')
    | (go_at_call 69; (with_reducible refine c2.mono ?_); rintro e w2 ⟨zo, zc, vo, vc, q0, q1, rfl, F2, A2⟩; obtain ⟨P, bP⟩ := F2 w2.heap.size _ (box_below w2 (.cells #[.slice zo tn zc, .slice vo bn vc] 55)) (allocNew w2 (.cells #[.slice zo tn zc, .slice vo bn vc] 55)); obtain ⟨k0, k1, k2, k3, k4, k5, k6, k7, k8, k9, k10, k11, _⟩ := P.all; have M : Pm (w.alloc (.cells #[.int .i64 K, .slice so sn sc, .slice ao an ac, .slice uo tn tc, .slice bo bn bc, .int .i64 N, .int .i64 I, .slice lo ln lc] 57)) (w1.alloc (.cells #[.slice xo sn xc, .slice yo an yc] 55)) (w2.alloc (.cells #[.slice zo tn zc, .slice vo bn vc] 55)) B hb gb w.heap.size w1.heap.size w2.heap.size K N I so sn sc ao an ac uo tn tc bo bn bc lo ln lc s a t b l go0 go1 ho0 ho1 xo xc yo yc zo zc vo vc r0 r1 q0 q1 := ⟨P, bP⟩; clear F2 A2)
    | fail)
  have f1 : ∀ V, (V.cell? ⟨w.heap.size, 0, none⟩ = some (.int .i64 K) ∧ V.cell? ⟨w.heap.size, 1, none⟩ = some (.slice so sn sc) ∧ V.cell? ⟨w.heap.size, 2, none⟩ = some (.slice ao an ac) ∧ V.cell? ⟨w.heap.size, 3, none⟩ = some (.slice uo tn tc) ∧ V.cell? ⟨w.heap.size, 4, none⟩ = some (.slice bo bn bc) ∧ V.cell? ⟨w.heap.size, 5, none⟩ = some (.int .i64 N) ∧ V.cell? ⟨w.heap.size, 6, none⟩ = some (.int .i64 I) ∧ V.cell? ⟨w.heap.size, 7, none⟩ = some (.slice lo ln lc) ∧ V.cell? ⟨w1.heap.size, 0, none⟩ = some (.slice xo sn xc) ∧ V.cell? ⟨w1.heap.size, 1, none⟩ = some (.slice yo an yc) ∧ V.cell? ⟨w2.heap.size, 0, none⟩ = some (.slice zo tn zc) ∧ V.cell? ⟨w2.heap.size, 1, none⟩ = some (.slice vo bn vc) ∧ Pm (w.alloc (.cells #[.int .i64 K, .slice so sn sc, .slice ao an ac, .slice uo tn tc, .slice bo bn bc, .int .i64 N, .int .i64 I, .slice lo ln lc] 57)) (w1.alloc (.cells #[.slice xo sn xc, .slice yo an yc] 55)) V B hb gb w.heap.size w1.heap.size w2.heap.size K N I so sn sc ao an ac uo tn tc bo bn bc lo ln lc s a t b l go0 go1 ho0 ho1 xo xc yo yc zo zc vo vc r0 r1 q0 q1) → Calls Try.prog 64 #[.int .i64 N] V fun e w' => ∃ eo c, e = .returned (.agg #[.slice none 0 0, .slice eo 1 c]) ∧ Rd w' eo 1 [N] ∧ Pm (w.alloc (.cells #[.int .i64 K, .slice so sn sc, .slice ao an ac, .slice uo tn tc, .slice bo bn bc, .int .i64 N, .int .i64 I, .slice lo ln lc] 57)) (w1.alloc (.cells #[.slice xo sn xc, .slice yo an yc] 55)) w' B hb gb w.heap.size w1.heap.size w2.heap.size K N I so sn sc ao an ac uo tn tc bo bn bc lo ln lc s a t b l go0 go1 ho0 ho1 xo xc yo yc zo zc vo vc r0 r1 q0 q1 := fun V h => (scalar_any N V hN1 hN2).mono fun e w' ⟨eo, c, e1, F, k⟩ => ⟨eo, c, e1, F.rd, h.2.2.2.2.2.2.2.2.2.2.2.2.below k⟩
  have f2 : ∀ V, (V.cell? ⟨w.heap.size, 0, none⟩ = some (.int .i64 K) ∧ V.cell? ⟨w.heap.size, 1, none⟩ = some (.slice so sn sc) ∧ V.cell? ⟨w.heap.size, 2, none⟩ = some (.slice ao an ac) ∧ V.cell? ⟨w.heap.size, 3, none⟩ = some (.slice uo tn tc) ∧ V.cell? ⟨w.heap.size, 4, none⟩ = some (.slice bo bn bc) ∧ V.cell? ⟨w.heap.size, 5, none⟩ = some (.int .i64 N) ∧ V.cell? ⟨w.heap.size, 6, none⟩ = some (.int .i64 I) ∧ V.cell? ⟨w.heap.size, 7, none⟩ = some (.slice lo ln lc) ∧ V.cell? ⟨w1.heap.size, 0, none⟩ = some (.slice xo sn xc) ∧ V.cell? ⟨w1.heap.size, 1, none⟩ = some (.slice yo an yc) ∧ V.cell? ⟨w2.heap.size, 0, none⟩ = some (.slice zo tn zc) ∧ V.cell? ⟨w2.heap.size, 1, none⟩ = some (.slice vo bn vc) ∧ Pm (w.alloc (.cells #[.int .i64 K, .slice so sn sc, .slice ao an ac, .slice uo tn tc, .slice bo bn bc, .int .i64 N, .int .i64 I, .slice lo ln lc] 57)) (w1.alloc (.cells #[.slice xo sn xc, .slice yo an yc] 55)) V B hb gb w.heap.size w1.heap.size w2.heap.size K N I so sn sc ao an ac uo tn tc bo bn bc lo ln lc s a t b l go0 go1 ho0 ho1 xo xc yo yc zo zc vo vc r0 r1 q0 q1) → Calls Try.prog 71 #[.int .i64 N] V fun e w' => ∃ eo c, e = .returned (.agg #[.slice none 0 0, .slice eo 1 c]) ∧ Rd w' eo 1 [N] ∧ Below V.heap.size V w' ∧ Pm (w.alloc (.cells #[.int .i64 K, .slice so sn sc, .slice ao an ac, .slice uo tn tc, .slice bo bn bc, .int .i64 N, .int .i64 I, .slice lo ln lc] 57)) (w1.alloc (.cells #[.slice xo sn xc, .slice yo an yc] 55)) w' B hb gb w.heap.size w1.heap.size w2.heap.size K N I so sn sc ao an ac uo tn tc bo bn bc lo ln lc s a t b l go0 go1 ho0 ho1 xo xc yo yc zo zc vo vc r0 r1 q0 q1 := fun V h => (refScalar_any N V hN1 hN2).mono fun e w' ⟨eo, c, e1, F, k⟩ => ⟨eo, c, e1, F.rd, k, h.2.2.2.2.2.2.2.2.2.2.2.2.below k⟩
  go_region_held3 (fun V => V.cell? ⟨w.heap.size, 0, none⟩ = some (.int .i64 K) ∧ V.cell? ⟨w.heap.size, 1, none⟩ = some (.slice so sn sc) ∧ V.cell? ⟨w.heap.size, 2, none⟩ = some (.slice ao an ac) ∧ V.cell? ⟨w.heap.size, 3, none⟩ = some (.slice uo tn tc) ∧ V.cell? ⟨w.heap.size, 4, none⟩ = some (.slice bo bn bc) ∧ V.cell? ⟨w.heap.size, 5, none⟩ = some (.int .i64 N) ∧ V.cell? ⟨w.heap.size, 6, none⟩ = some (.int .i64 I) ∧ V.cell? ⟨w.heap.size, 7, none⟩ = some (.slice lo ln lc) ∧ V.cell? ⟨w1.heap.size, 0, none⟩ = some (.slice xo sn xc) ∧ V.cell? ⟨w1.heap.size, 1, none⟩ = some (.slice yo an yc) ∧ V.cell? ⟨w2.heap.size, 0, none⟩ = some (.slice zo tn zc) ∧ V.cell? ⟨w2.heap.size, 1, none⟩ = some (.slice vo bn vc) ∧ Pm (w.alloc (.cells #[.int .i64 K, .slice so sn sc, .slice ao an ac, .slice uo tn tc, .slice bo bn bc, .int .i64 N, .int .i64 I, .slice lo ln lc] 57)) (w1.alloc (.cells #[.slice xo sn xc, .slice yo an yc] 55)) V B hb gb w.heap.size w1.heap.size w2.heap.size K N I so sn sc ao an ac uo tn tc bo bn bc lo ln lc s a t b l go0 go1 ho0 ho1 xo xc yo yc zo zc vo vc r0 r1 q0 q1) (first | exact Pm.all (by assumption) | exact Pm.all (Pm.drew (by assumption)))
    (first
      | (go_at_call 64; (with_reducible refine (f1 _ (by assumption)).mono ?_); rintro e w9 ⟨eo, ec, rfl, r9, T9⟩)
      | (go_at_call 71; (with_reducible refine (f2 _ (by assumption)).mono ?_); rintro e w10 ⟨fo, fc, rfl, r10, b10, T10⟩; have r9' := r9.below b10 (Nat.le_refl _))
      | (go_at_call 25; (with_reducible refine (eq_same _ none eo none fo 0 0 1 ec 0 0 1 fc [] [N] (Rd.nil _) r9' (Rd.nil _) r10).mono ?_); rintro e w11 ⟨rfl, b11⟩; have T11 := T10.below b11))
  all_goals
    rename_i TL
    clear P bP k0 k1 k2 k3 k4 k5 k6 k7 k8 k9 k10 k11 M f1 f2
    obtain ⟨k0, k1, k2, k3, k4, k5, k6, k7, k8, k9, k10, k11, ML⟩ := TL
    have P := ML.p
    have bP := ML.bl
    go_wp2_with (first
      | (go_at_call 79; (with_reducible refine (call_kept1 P).mono ?_); rintro e w3 ⟨rfl, T3, b3⟩; obtain ⟨y0, y1, y2, y3, y4, _, _, _⟩ := box8 T3.ar.op)
      | (go_at_call 79; (with_reducible refine (call_kept2 T3).mono ?_); rintro e w4 ⟨rfl, hx, gx, dx, b4⟩)
      | fail)
    go_returns
    exact ⟨rfl, _, _, _, _, hx, gx, dx, below_tr bw (below_tr bP (below_tr b3 b4))⟩
end Go.Proofs.Ytkplfnajhinkiaa
