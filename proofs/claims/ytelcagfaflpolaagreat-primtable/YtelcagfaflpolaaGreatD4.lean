
/- Contract: the cells of two arrays that agree. -/

import Derived.Test.YtelcagfaflpolaaGreatD1
import Derived.Test.YtelcagfaflpolaaGreatAgree


namespace Go.Proofs.YtelcagfaflpolaaGreat

open Go.RowKit

set_option linter.unusedVariables false

theorem box7 {W : World} {g : Nat} {v0 v1 v2 v3 v4 v5 v6 : Value} {t : TypeId} (h : W.heap[g]? = some (.cells #[v0, v1, v2, v3, v4, v5, v6] t (0, 0))) :
    (W.cell? ⟨g, 0, none⟩ = some v0 ∧ W.cell? ⟨g, 1, none⟩ = some v1 ∧ W.cell? ⟨g, 2, none⟩ = some v2 ∧ W.cell? ⟨g, 3, none⟩ = some v3 ∧ W.cell? ⟨g, 4, none⟩ = some v4 ∧ W.cell? ⟨g, 5, none⟩ = some v5 ∧ W.cell? ⟨g, 6, none⟩ = some v6) ∧ (W.frozen? ⟨g, 0, none⟩ = false ∧ W.frozen? ⟨g, 1, none⟩ = false ∧ W.frozen? ⟨g, 2, none⟩ = false ∧ W.frozen? ⟨g, 3, none⟩ = false ∧ W.frozen? ⟨g, 4, none⟩ = false ∧ W.frozen? ⟨g, 5, none⟩ = false ∧ W.frozen? ⟨g, 6, none⟩ = false) :=
  ⟨⟨(cell_of_row W g 0 _ t (0, 0) h).trans rfl, (cell_of_row W g 1 _ t (0, 0) h).trans rfl, (cell_of_row W g 2 _ t (0, 0) h).trans rfl, (cell_of_row W g 3 _ t (0, 0) h).trans rfl, (cell_of_row W g 4 _ t (0, 0) h).trans rfl, (cell_of_row W g 5 _ t (0, 0) h).trans rfl, (cell_of_row W g 6 _ t (0, 0) h).trans rfl⟩, ⟨frozen_of_row W g 0 _ t h, frozen_of_row W g 1 _ t h, frozen_of_row W g 2 _ t h, frozen_of_row W g 3 _ t h, frozen_of_row W g 4 _ t h, frozen_of_row W g 5 _ t h, frozen_of_row W g 6 _ t h⟩⟩
theorem set7 (W : World) (b : Nat) (v0 v1 v2 v3 v4 v5 v6 : Value) : W.grownBy (((((((W.setCell ⟨b, 0, none⟩ v0).setCell ⟨b, 1, none⟩ v1).setCell ⟨b, 2, none⟩ v2).setCell ⟨b, 3, none⟩ v3).setCell ⟨b, 4, none⟩ v4).setCell ⟨b, 5, none⟩ v5).setCell ⟨b, 6, none⟩ v6) (some b) :=
  grown_trans (grown_trans (grown_trans (set2 W b 0 1 v0 v1) (set2 _ b 2 3 v2 v3)) (set2 _ b 4 5 v4 v5)) (set1 _ b 6 v6)
theorem below_set7 {a W : World} {B b : Nat} (v0 v1 v2 v3 v4 v5 v6 : Value) (h : Below B a W) (hb : B ≤ b) (hs : B ≤ a.heap.size) : Below B a (((((((W.setCell ⟨b, 0, none⟩ v0).setCell ⟨b, 1, none⟩ v1).setCell ⟨b, 2, none⟩ v2).setCell ⟨b, 3, none⟩ v3).setCell ⟨b, 4, none⟩ v4).setCell ⟨b, 5, none⟩ v5).setCell ⟨b, 6, none⟩ v6) :=
  have k := set7 W b v0 v1 v2 v3 v4 v5 v6
  ⟨k.os.trans h.os, k.tape.trans h.tape, k.output.trans h.output, Nat.le_trans h.size k.size, fun j hj => (k.block j (Nat.lt_of_lt_of_le (Nat.lt_of_lt_of_le hj hs) h.size) (fun e => by simp only [Option.some.injEq] at e; omega)).trans (h.block j hj)⟩

/-- Two arrays in boxes, and the answer's box. -/
structure Tw (w V : World) (so : Option Addr) (sn sc : Nat) (ao : Option Addr) (an ac : Nat) (to : Option Addr) (tn tc : Nat) (bo : Option Addr) (bn bc : Nat) (s a t b : List Int) : Prop where
  x : V.heap[w.heap.size]? = some (.cells #[.slice so sn sc, .slice ao an ac] 36 (0, 0))
  y : V.heap[w.heap.size + 1]? = some (.cells #[.slice to tn tc, .slice bo bn bc] 36 (0, 0))
  r : V.heap[w.heap.size + 1 + 1]? = some (.cells #[.slice none 0 0, .slice none 0 0, .slice none 0 0, .slice none 0 0, .slice none 0 0, .slice none 0 0, .slice none 0 0] 53 (0, 0))
  s : Rd V so sn s
  a : Rd V ao an a
  t : Rd V to tn t
  b : Rd V bo bn b
  bel : Below w.heap.size w V
theorem Tw.below {w V V' : World} {so : Option Addr} {sn sc : Nat} {ao : Option Addr} {an ac : Nat} {to : Option Addr} {tn tc : Nat} {bo : Option Addr} {bn bc : Nat} {s a t b : List Int} (h : Tw w V so sn sc ao an ac to tn tc bo bn bc s a t b) (k : Below V.heap.size V V') : Tw w V' so sn sc ao an ac to tn tc bo bn bc s a t b :=
  have bl : ∀ {B : Nat} {o : Obj}, V.heap[B]? = some o → V'.heap[B]? = some o := fun h => (k.block _ (Array.getElem?_eq_some_iff.1 h).1).trans h
  ⟨bl h.x, bl h.y, bl h.r, h.s.below k (Nat.le_refl _), h.a.below k (Nat.le_refl _), h.t.below k (Nat.le_refl _), h.b.below k (Nat.le_refl _), h.bel.trans (k.mono h.bel.size)⟩
theorem tw_start {w : World} {so : Option Addr} {sn sc : Nat} {ao : Option Addr} {an ac : Nat} {to : Option Addr} {tn tc : Nat} {bo : Option Addr} {bn bc : Nat} {s a t b : List Int} (hs : Rd w so sn s) (ha : Rd w ao an a) (ht : Rd w to tn t) (hb : Rd w bo bn b) : Tw w (((w.alloc (.cells #[.slice so sn sc, .slice ao an ac] 36)).alloc (.cells #[.slice to tn tc, .slice bo bn bc] 36)).alloc (.cells #[.slice none 0 0, .slice none 0 0, .slice none 0 0, .slice none 0 0, .slice none 0 0, .slice none 0 0, .slice none 0 0] 53)) so sn sc ao an ac to tn tc bo bn bc s a t b := by
  have up : ∀ {W : World} {o o' : Obj} {B : Nat}, W.heap[B]? = some o → (W.alloc o').heap[B]? = some o := fun {W o o' B} h => ((box_below W o').block B (Array.getElem?_eq_some_iff.1 h).1).trans h
  have n0 := up (o' := (.cells #[.slice none 0 0, .slice none 0 0, .slice none 0 0, .slice none 0 0, .slice none 0 0, .slice none 0 0, .slice none 0 0] 53)) (up (o' := (.cells #[.slice to tn tc, .slice bo bn bc] 36)) (allocNew w (.cells #[.slice so sn sc, .slice ao an ac] 36)))
  have n1 := up (o' := (.cells #[.slice none 0 0, .slice none 0 0, .slice none 0 0, .slice none 0 0, .slice none 0 0, .slice none 0 0, .slice none 0 0] 53)) (allocNew (w.alloc (.cells #[.slice so sn sc, .slice ao an ac] 36)) (.cells #[.slice to tn tc, .slice bo bn bc] 36))
  have n2 := allocNew ((w.alloc (.cells #[.slice so sn sc, .slice ao an ac] 36)).alloc (.cells #[.slice to tn tc, .slice bo bn bc] 36)) (.cells #[.slice none 0 0, .slice none 0 0, .slice none 0 0, .slice none 0 0, .slice none 0 0, .slice none 0 0, .slice none 0 0] 53)
  simp only [World.size_alloc] at n1 n2
  have k : Below w.heap.size w (((w.alloc (.cells #[.slice so sn sc, .slice ao an ac] 36)).alloc (.cells #[.slice to tn tc, .slice bo bn bc] 36)).alloc (.cells #[.slice none 0 0, .slice none 0 0, .slice none 0 0, .slice none 0 0, .slice none 0 0, .slice none 0 0, .slice none 0 0] 53)) := (((Below.refl _ w).alloc (Nat.le_refl _) _).alloc (by simp) _).alloc (by simp; omega) _
  exact ⟨n0, n1, n2, hs.below k (Nat.le_refl _), ha.below k (Nat.le_refl _), ht.below k (Nat.le_refl _), hb.below k (Nat.le_refl _), k⟩

set_option maxHeartbeats 2000000 in
set_option maxRecDepth 20000 in
theorem two_no1 (so ao to bo : Option Addr) (sn sc an ac tn tc bn bc : Nat) (s a t b : List Int) (l r : Int) (w : World) (hs : Rd w so sn s) (ss : Sl so sn sc) (ha : Rd w ao an a) (sa : Sl ao an ac) (ht : Rd w to tn t) (st : Sl to tn tc) (hb : Rd w bo bn b) (sb : Sl bo bn bc) (l1 : -9223372036854775808 ≤ l) (l2 : l ≤ 9223372036854775807) (r1 : -9223372036854775808 ≤ r) (r2 : r ≤ 9223372036854775807) (h0 : mayA s a ≠ 0) :
    Calls Tryz.prog 21 #[.agg #[.slice so sn sc, .slice ao an ac], .agg #[.slice to tn tc, .slice bo bn bc], .int .i64 l, .int .i64 r] w fun e w' => e = .returned (.tuple #[.agg #[.slice none 0 0, .slice none 0 0, .slice none 0 0, .slice none 0 0, .slice none 0 0, .slice none 0 0, .slice none 0 0], .int .i64 1]) ∧ Below w.heap.size w w' := by
  have T0 := tw_start (sc := sc) (ac := ac) (tc := tc) (bc := bc) hs ha ht hb
  obtain ⟨p0, p1, _, _⟩ := box2 T0.x
  have o1 := one_may so ao sn sc an ac s a l _ T0.s T0.a h0
  clear h0
  go_enter Tryz.func21, Tryz.ntmps21
  go_wp2_with (go_at_call 14; refine o1.mono ?_; rintro e W1 ⟨rfl, h1⟩; have T1 := (T0.below h1).below (box_below W1 (.cells #[.slice none 0 0, .slice none 0 0, .slice none 0 0, .slice none 0 0] 40)); obtain ⟨⟨z0, z1, z2, z3, z4, z5, z6⟩, y0, y1, y2, y3, y4, y5, y6⟩ := box7 T1.r)
  (try simp only [Exit.inBlock, Exit.then])
  refine bodyPost_ret (v := .tuple #[.agg #[.slice none 0 0, .slice none 0 0, .slice none 0 0, .slice none 0 0, .slice none 0 0, .slice none 0 0, .slice none 0 0], .int .i64 1]) (by rw [results_cell_tmp rfl]; go_simp) rfl ?_
  exact ⟨rfl, below_set7 _ _ _ _ _ _ _ T1.bel (by omega) (Nat.le_refl _)⟩

set_option maxHeartbeats 4000000 in
set_option maxRecDepth 20000 in
theorem two_no2 (so ao to bo : Option Addr) (sn sc an ac tn tc bn bc : Nat) (s a t b : List Int) (l r : Int) (w : World) (hs : Rd w so sn s) (ss : Sl so sn sc) (ha : Rd w ao an a) (sa : Sl ao an ac) (ht : Rd w to tn t) (st : Sl to tn tc) (hb : Rd w bo bn b) (sb : Sl bo bn bc) (l1 : -9223372036854775808 ≤ l) (l2 : l ≤ 9223372036854775807) (r1 : -9223372036854775808 ≤ r) (r2 : r ≤ 9223372036854775807) (h0 : mayA s a = 0) (h1 : mayA t b ≠ 0) :
    Calls Tryz.prog 21 #[.agg #[.slice so sn sc, .slice ao an ac], .agg #[.slice to tn tc, .slice bo bn bc], .int .i64 l, .int .i64 r] w fun e w' => e = .returned (.tuple #[.agg #[.slice none 0 0, .slice none 0 0, .slice none 0 0, .slice none 0 0, .slice none 0 0, .slice none 0 0, .slice none 0 0], .int .i64 1]) ∧ Below w.heap.size w w' := by
  have T0 := tw_start (sc := sc) (ac := ac) (tc := tc) (bc := bc) hs ha ht hb
  obtain ⟨p0, p1, _, _⟩ := box2 T0.x
  have o1 := one_ok so ao sn sc an ac s a l _ T0.s ss T0.a sa h0 l1 l2
  have o2 := fun V (x : Rd V to tn t) (y : Rd V bo bn b) => one_may to bo tn tc bn bc t b r V x y h1
  clear h0 h1
  generalize npl s l = m1 at *
  go_enter Tryz.func21, Tryz.ntmps21
  go_wp2_with (first
    | (go_at_call 14; (with_reducible refine o1.mono ?_); rintro e W1 ⟨fo, fn, fc, gg, u1, n1, c1, u2, n2, c2, rfl, F1, A1, hgg, L1, M1, k1⟩; have T1 := (T0.below k1).below (box_below W1 (.cells #[.slice fo fn fc, .slice (some ⟨gg, 0, none⟩) m1 m1, .slice u1 n1 c1, .slice u2 n2 c2] 40)); obtain ⟨q0, q1, _, _⟩ := box2 T1.y)
    | (go_at_call 14; (with_reducible refine (o2 _ T1.t T1.b).mono ?_); rintro e W2 ⟨rfl, k2⟩; have T2 := (T1.below k2).below (box_below W2 (.cells #[.slice none 0 0, .slice none 0 0, .slice none 0 0, .slice none 0 0] 40)); obtain ⟨⟨z0, z1, z2, z3, z4, z5, z6⟩, y0, y1, y2, y3, y4, y5, y6⟩ := box7 T2.r))
  (try simp only [Exit.inBlock, Exit.then])
  refine bodyPost_ret (v := .tuple #[.agg #[.slice none 0 0, .slice none 0 0, .slice none 0 0, .slice none 0 0, .slice none 0 0, .slice none 0 0, .slice none 0 0], .int .i64 1]) (by rw [results_cell_tmp rfl]; go_simp) rfl ?_
  exact ⟨rfl, below_set7 _ _ _ _ _ _ _ T2.bel (by omega) (Nat.le_refl _)⟩

set_option maxHeartbeats 4000000 in
set_option maxRecDepth 20000 in
theorem two_no3 (so ao to bo : Option Addr) (sn sc an ac tn tc bn bc : Nat) (s a t b : List Int) (l r : Int) (w : World) (hs : Rd w so sn s) (ss : Sl so sn sc) (ha : Rd w ao an a) (sa : Sl ao an ac) (ht : Rd w to tn t) (st : Sl to tn tc) (hb : Rd w bo bn b) (sb : Sl bo bn bc) (l1 : -9223372036854775808 ≤ l) (l2 : l ≤ 9223372036854775807) (r1 : -9223372036854775808 ≤ r) (r2 : r ≤ 9223372036854775807) (h0 : mayA s a = 0) (h1 : mayA t b = 0) (h2 : agrE (frm s l) (frm t r) ≠ 0) :
    Calls Tryz.prog 21 #[.agg #[.slice so sn sc, .slice ao an ac], .agg #[.slice to tn tc, .slice bo bn bc], .int .i64 l, .int .i64 r] w fun e w' => e = .returned (.tuple #[.agg #[.slice none 0 0, .slice none 0 0, .slice none 0 0, .slice none 0 0, .slice none 0 0, .slice none 0 0, .slice none 0 0], .int .i64 (agrE (frm s l) (frm t r))]) ∧ Below w.heap.size w w' := by
  have T0 := tw_start (sc := sc) (ac := ac) (tc := tc) (bc := bc) hs ha ht hb
  obtain ⟨p0, p1, _, _⟩ := box2 T0.x
  have o1 := one_ok so ao sn sc an ac s a l _ T0.s ss T0.a sa h0 l1 l2
  have o2 := fun V (x : Rd V to tn t) (y : Rd V bo bn b) => one_ok to bo tn tc bn bc t b r V x st y sb h1 r1 r2
  have e2 : (agrE (frm s l) (frm t r) != 0) = true := by simpa using h2
  clear h0 h1 h2
  generalize npl s l = m1 at *
  generalize npl t r = m2 at *
  go_enter Tryz.func21, Tryz.ntmps21
  go_wp2_with (first
    | (go_at_call 14; (with_reducible refine o1.mono ?_); rintro e W1 ⟨fo, fn, fc, gg, u1, n1, c1, u2, n2, c2, rfl, F1, A1, hgg, L1, M1, k1⟩; have kb1 := box_below W1 (.cells #[.slice fo fn fc, .slice (some ⟨gg, 0, none⟩) m1 m1, .slice u1 n1 c1, .slice u2 n2 c2] 40); have x1 := allocNew W1 (.cells #[.slice fo fn fc, .slice (some ⟨gg, 0, none⟩) m1 m1, .slice u1 n1 c1, .slice u2 n2 c2] 40); have T1 := (T0.below k1).below kb1; obtain ⟨q0, q1, _, _⟩ := box2 T1.y)
    | (go_at_call 14; (with_reducible refine (o2 _ T1.t T1.b).mono ?_); rintro e W2 ⟨fo2, fn2, fc2, gg2, u3, n3, c3, u4, n4, c4, rfl, F2, A2, hgg2, L2, M2, k2⟩; have kb2 := box_below W2 (.cells #[.slice fo2 fn2 fc2, .slice (some ⟨gg2, 0, none⟩) m2 m2, .slice u3 n3 c3, .slice u4 n4 c4] 40); have x2 := allocNew W2 (.cells #[.slice fo2 fn2 fc2, .slice (some ⟨gg2, 0, none⟩) m2 m2, .slice u3 n3 c3, .slice u4 n4 c4] 40); have T2 := (T1.below k2).below kb2; have lx1 := (Array.getElem?_eq_some_iff.1 x1).1; have x1' := (kb2.block _ (Nat.lt_of_lt_of_le lx1 k2.size)).trans ((k2.block _ lx1).trans x1); obtain ⟨f0, f1, f2, f3, _, _, _, _⟩ := box4 x1'; obtain ⟨f4, f5, f6, f7, _, _, _, _⟩ := box4 x2; have F1' := ((F1.below kb1 (Nat.le_refl _)).below k2 (Nat.le_refl _)).below kb2 (Nat.le_refl _); have F2' := F2.below kb2 (Nat.le_refl _))
    | (go_at_call 45; (with_reducible refine (agree_any fo fo2 fn fn2 fc fc2 _ _ _ F1'.rd F2'.rd F1'.sl F2'.sl).mono ?_); rintro e W3 ⟨o5, n5, c5, rfl, F5, k5⟩; have T3 := T2.below k5; obtain ⟨⟨z0, z1, z2, z3, z4, z5, z6⟩, y0, y1, y2, y3, y4, y5, y6⟩ := box7 T3.r))
  (try simp only [Exit.inBlock, Exit.then])
  refine bodyPost_ret (v := .tuple #[.agg #[.slice none 0 0, .slice none 0 0, .slice none 0 0, .slice none 0 0, .slice none 0 0, .slice none 0 0, .slice none 0 0], .int .i64 (agrE (frm s l) (frm t r))]) (by rw [results_cell_tmp rfl]; go_simp) rfl ?_
  exact ⟨rfl, below_set7 _ _ _ _ _ _ _ T3.bel (by omega) (Nat.le_refl _)⟩

end Go.Proofs.YtelcagfaflpolaaGreat


namespace Go.Proofs.YtelcagfaflpolaaGreat

open Go.RowKit

set_option linter.unusedVariables false

set_option maxHeartbeats 8000000 in
set_option maxRecDepth 20000 in
theorem two_ok (so ao to bo : Option Addr) (sn sc an ac tn tc bn bc : Nat) (s a t b : List Int) (l r : Int) (w : World) (hs : Rd w so sn s) (ss : Sl so sn sc) (ha : Rd w ao an a) (sa : Sl ao an ac) (ht : Rd w to tn t) (st : Sl to tn tc) (hb : Rd w bo bn b) (sb : Sl bo bn bc) (l1 : -9223372036854775808 ≤ l) (l2 : l ≤ 9223372036854775807) (r1 : -9223372036854775808 ≤ r) (r2 : r ≤ 9223372036854775807) (h0 : mayA s a = 0) (h1 : mayA t b = 0) (h2 : agrE (frm s l) (frm t r) = 0) :
    Calls Tryz.prog 21 #[.agg #[.slice so sn sc, .slice ao an ac], .agg #[.slice to tn tc, .slice bo bn bc], .int .i64 l, .int .i64 r] w fun e w' => ∃ o5 n5 c5 gg gg2 u1 n1 c1 u2 n2 c2 u3 n3 c3 u4 n4 c4, e = .returned (.tuple #[.agg #[.slice o5 n5 c5, .slice (some ⟨gg, 0, none⟩) (npl s l) (npl s l), .slice (some ⟨gg2, 0, none⟩) (npl t r) (npl t r), .slice u1 n1 c1, .slice u2 n2 c2, .slice u3 n3 c3, .slice u4 n4 c4], .int .i64 0]) ∧ Ft 3 w' w.heap.size o5 n5 c5 (agrL (frm s l) (frm t r)) ∧ Ac w' gg (npl s l) (npl s l) (cls s a l) ∧ Ac w' gg2 (npl t r) (npl t r) (cls t b r) ∧ w.heap.size ≤ gg ∧ w.heap.size ≤ gg2 ∧ Ft 3 w' w.heap.size u1 n1 c1 (inn s l) ∧ Ft 2 w' w.heap.size u2 n2 c2 (List.replicate (clz s l) 0) ∧ Ft 3 w' w.heap.size u3 n3 c3 (inn t r) ∧ Ft 2 w' w.heap.size u4 n4 c4 (List.replicate (clz t r) 0) ∧ Below w.heap.size w w' := by
  have T0 := tw_start (sc := sc) (ac := ac) (tc := tc) (bc := bc) hs ha ht hb
  obtain ⟨p0, p1, _, _⟩ := box2 T0.x
  have o1 := one_ok so ao sn sc an ac s a l _ T0.s ss T0.a sa h0 l1 l2
  have o2 := fun V (x : Rd V to tn t) (y : Rd V bo bn b) => one_ok to bo tn tc bn bc t b r V x st y sb h1 r1 r2
  have ag := fun V fo fn fc fo2 fn2 fc2 (x : Ft 3 V w.heap.size fo fn fc (frm s l)) (y : Ft 3 V w.heap.size fo2 fn2 fc2 (frm t r)) => agree_any fo fo2 fn fn2 fc fc2 _ _ V x.rd y.rd x.sl y.sl
  rw [h2] at ag
  clear h0 h1 h2
  generalize npl s l = m1 at *
  generalize npl t r = m2 at *
  generalize agrL (frm s l) (frm t r) = LL at *
  generalize cls s a l = xs1 at *
  generalize cls t b r = xs2 at *
  generalize List.replicate (clz s l) (0 : Int) = z1 at *
  generalize List.replicate (clz t r) (0 : Int) = z2 at *
  have lw : w.heap.size ≤ (((w.alloc (.cells #[.slice so sn sc, .slice ao an ac] 36)).alloc (.cells #[.slice to tn tc, .slice bo bn bc] 36)).alloc (.cells #[.slice none 0 0, .slice none 0 0, .slice none 0 0, .slice none 0 0, .slice none 0 0, .slice none 0 0, .slice none 0 0] 53)).heap.size := T0.bel.size
  have ls : (((w.alloc (.cells #[.slice so sn sc, .slice ao an ac] 36)).alloc (.cells #[.slice to tn tc, .slice bo bn bc] 36)).alloc (.cells #[.slice none 0 0, .slice none 0 0, .slice none 0 0, .slice none 0 0, .slice none 0 0, .slice none 0 0, .slice none 0 0] 53)).heap.size = w.heap.size + 1 + 1 + 1 := by simp
  go_enter Tryz.func21, Tryz.ntmps21
  go_wp2_with (first
    | (go_at_call 14; (with_reducible refine o1.mono ?_); rintro e W1 ⟨fo, fn, fc, gg, u1, n1, c1, u2, n2, c2, rfl, F1, A1, hgg, L1, M1, k1⟩; have kb1 := box_below W1 (.cells #[.slice fo fn fc, .slice (some ⟨gg, 0, none⟩) m1 m1, .slice u1 n1 c1, .slice u2 n2 c2] 40); have x1 := allocNew W1 (.cells #[.slice fo fn fc, .slice (some ⟨gg, 0, none⟩) m1 m1, .slice u1 n1 c1, .slice u2 n2 c2] 40); have T1 := (T0.below k1).below kb1; obtain ⟨q0, q1, _, _⟩ := box2 T1.y)
    | (go_at_call 14; (with_reducible refine (o2 _ T1.t T1.b).mono ?_); rintro e W2 ⟨fo2, fn2, fc2, gg2, u3, n3, c3, u4, n4, c4, rfl, F2, A2, hgg2, L2, M2, k2⟩; have kb2 := box_below W2 (.cells #[.slice fo2 fn2 fc2, .slice (some ⟨gg2, 0, none⟩) m2 m2, .slice u3 n3 c3, .slice u4 n4 c4] 40); have x2 := allocNew W2 (.cells #[.slice fo2 fn2 fc2, .slice (some ⟨gg2, 0, none⟩) m2 m2, .slice u3 n3 c3, .slice u4 n4 c4] 40); have T2 := (T1.below k2).below kb2; have lx1 := (Array.getElem?_eq_some_iff.1 x1).1; have x1' := (kb2.block _ (Nat.lt_of_lt_of_le lx1 k2.size)).trans ((k2.block _ lx1).trans x1); obtain ⟨f0, f1, f2, f3, _, _, _, _⟩ := box4 x1'; obtain ⟨f4, f5, f6, f7, _, _, _, _⟩ := box4 x2; have F1' := (((F1.below kb1 (Nat.le_refl _)).below k2 (Nat.le_refl _)).below kb2 (Nat.le_refl _)).mono lw; have F2' := (F2.below kb2 (Nat.le_refl _)).mono (B' := w.heap.size) T1.bel.size)
    | (go_at_call 45; (with_reducible refine (ag _ _ _ _ _ _ _ F1' F2').mono ?_); rintro e W3 ⟨o5, n5, c5, rfl, F5, k5⟩; have T3 := T2.below k5; have kk := btw kb2 k5 kb2.size; have x1'' := (k5.block _ (Array.getElem?_eq_some_iff.1 x1').1).trans x1'; have x2'' := (k5.block _ (Array.getElem?_eq_some_iff.1 x2).1).trans x2; obtain ⟨i0, i1, i2, i3, _, _, _, _⟩ := box4 x1''; obtain ⟨i4, i5, i6, i7, _, _, _, _⟩ := box4 x2''; obtain ⟨⟨z0, z1, z2, z3, z4, z5, z6⟩, y0, y1, y2, y3, y4, y5, y6⟩ := box7 T3.r))
  (try simp only [Exit.inBlock, Exit.then])
  refine bodyPost_ret (v := .tuple #[.agg #[.slice o5 n5 c5, .slice (some ⟨gg, 0, none⟩) m1 m1, .slice (some ⟨gg2, 0, none⟩) m2 m2, .slice u1 n1 c1, .slice u2 n2 c2, .slice u3 n3 c3, .slice u4 n4 c4], .int .i64 0]) (by rw [results_cell_tmp rfl]; go_simp) rfl ?_
  have K := set7 W3 (w.heap.size + 1 + 1) (.slice o5 n5 c5) (.slice (some ⟨gg, 0, none⟩) m1 m1) (.slice (some ⟨gg2, 0, none⟩) m2 m2) (.slice u1 n1 c1) (.slice u2 n2 c2) (.slice u3 n3 c3) (.slice u4 n4 c4)
  have G5 := Fr.ft F5
  have sT1 := T1.bel.size
  have sT2 := T2.bel.size
  have tt : ∀ {e : TypeId} {o : Option Addr} {n c : Nat} {zs : List Int}, Ft e W1 (((w.alloc (.cells #[.slice so sn sc, .slice ao an ac] 36)).alloc (.cells #[.slice to tn tc, .slice bo bn bc] 36)).alloc (.cells #[.slice none 0 0, .slice none 0 0, .slice none 0 0, .slice none 0 0, .slice none 0 0, .slice none 0 0, .slice none 0 0] 53)).heap.size o n c zs → Ft e W3 (((w.alloc (.cells #[.slice so sn sc, .slice ao an ac] 36)).alloc (.cells #[.slice to tn tc, .slice bo bn bc] 36)).alloc (.cells #[.slice none 0 0, .slice none 0 0, .slice none 0 0, .slice none 0 0, .slice none 0 0, .slice none 0 0, .slice none 0 0] 53)).heap.size o n c zs := fun f => ((f.below kb1 (Nat.le_refl _)).below k2 (Nat.le_refl _)).below kk (Nat.le_refl _)
  have tv : ∀ {e : TypeId} {o : Option Addr} {n c : Nat} {zs : List Int}, Ft e W2 (W1.alloc (.cells #[.slice fo fn fc, .slice (some ⟨gg, 0, none⟩) m1 m1, .slice u1 n1 c1, .slice u2 n2 c2] 40)).heap.size o n c zs → Ft e W3 (W1.alloc (.cells #[.slice fo fn fc, .slice (some ⟨gg, 0, none⟩) m1 m1, .slice u1 n1 c1, .slice u2 n2 c2] 40)).heap.size o n c zs := fun f => f.below kk (Nat.le_refl _)
  have s1 := k1.size
  have e1 : (W1.alloc (.cells #[.slice fo fn fc, .slice (some ⟨gg, 0, none⟩) m1 m1, .slice u1 n1 c1, .slice u2 n2 c2] 40)).heap.size = W1.heap.size + 1 := by simp
  have a1 := A1.lt
  have fin : ∀ {e : TypeId} {o : Option Addr} {n c B : Nat} {zs : List Int}, Ft e W3 B o n c zs → w.heap.size + 1 + 1 < B → Ft e _ w.heap.size o n c zs := fun {e o n c B zs} f h => (f.keep1 K (fun b off e => by have := (f.at b off e).1; intro e'; simp only [Option.some.injEq] at e'; omega)).mono (by omega)
  have s2 := k2.size
  have e3 : (W2.alloc (.cells #[.slice fo2 fn2 fc2, .slice (some ⟨gg2, 0, none⟩) m2 m2, .slice u3 n3 c3, .slice u4 n4 c4] 40)).heap.size = W2.heap.size + 1 := by simp
  refine ⟨_, _, _, _, _, _, _, _, _, _, _, _, _, _, _, _, _, rfl, fin G5 (by omega), (((A1.below kb1).below k2).below kk).keep K (by omega), (A2.below kk).keep K (by omega), by omega, by omega, fin (tt L1) (by omega), fin (tt M1) (by omega), fin (tv L2) (by omega), fin (tv M2) (by omega), below_set7 _ _ _ _ _ _ _ T3.bel (by omega) (Nat.le_refl _)⟩
end Go.Proofs.YtelcagfaflpolaaGreat
