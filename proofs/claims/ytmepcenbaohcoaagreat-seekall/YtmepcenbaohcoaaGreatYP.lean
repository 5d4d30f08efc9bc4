
/- Contracts of package seek: Monad and Dyad. -/

import Derived.Test.YtmepcenbaohcoaaGreatYO

namespace Go.Proofs.YtmepcenbaohcoaaGreat

open Go.RowKit

set_option linter.unusedVariables false

theorem nM_eqF (w : World) (f : Fn) (a c : Array Value) : (binOp .eql 44 (.func f a c) .nilFunc).run Tryz.prog w = .ok (.bool false) w := by
  have hu : Tryz.prog.underlying 44 = some (.func #[30] #[30, 34] false) := by kernel_rfl
  have h : (Op.equal 44 (.func f a c) .nilFunc).run Tryz.prog w = .ok false w := by
    show (Op.equalIn (9999 + 1) 44 (.func f a c) .nilFunc).run Tryz.prog w = .ok false w
    rw [Op.equalIn]
    simp [Sem.run_bind, run_underlying hu, Result.andThen]
  simp [binOp, h]
theorem nM_eqN (w : World) (f : Fn) (a c : Array Value) : (binOp .eql 44 .nilFunc .nilFunc).run Tryz.prog w = .ok (.bool true) w := by
  have hu : Tryz.prog.underlying 44 = some (.func #[30] #[30, 34] false) := by kernel_rfl
  have h : (Op.equal 44 .nilFunc .nilFunc).run Tryz.prog w = .ok true w := by
    show (Op.equalIn (9999 + 1) 44 .nilFunc .nilFunc).run Tryz.prog w = .ok true w
    rw [Op.equalIn]
    simp [Sem.run_bind, run_underlying hu, Result.andThen]
  simp [binOp, h]
theorem nM_neF (w : World) (f : Fn) (a c : Array Value) : (binOp .neq 44 (.func f a c) .nilFunc).run Tryz.prog w = .ok (.bool true) w := by
  have hu : Tryz.prog.underlying 44 = some (.func #[30] #[30, 34] false) := by kernel_rfl
  have h : (Op.equal 44 (.func f a c) .nilFunc).run Tryz.prog w = .ok false w := by
    show (Op.equalIn (9999 + 1) 44 (.func f a c) .nilFunc).run Tryz.prog w = .ok false w
    rw [Op.equalIn]
    simp [Sem.run_bind, run_underlying hu, Result.andThen]
  simp [binOp, h]
theorem nD_eqF (w : World) (f : Fn) (a c : Array Value) : (binOp .eql 45 (.func f a c) .nilFunc).run Tryz.prog w = .ok (.bool false) w := by
  have hu : Tryz.prog.underlying 45 = some (.func #[30, 30] #[30, 34] false) := by kernel_rfl
  have h : (Op.equal 45 (.func f a c) .nilFunc).run Tryz.prog w = .ok false w := by
    show (Op.equalIn (9999 + 1) 45 (.func f a c) .nilFunc).run Tryz.prog w = .ok false w
    rw [Op.equalIn]
    simp [Sem.run_bind, run_underlying hu, Result.andThen]
  simp [binOp, h]
theorem nD_eqN (w : World) (f : Fn) (a c : Array Value) : (binOp .eql 45 .nilFunc .nilFunc).run Tryz.prog w = .ok (.bool true) w := by
  have hu : Tryz.prog.underlying 45 = some (.func #[30, 30] #[30, 34] false) := by kernel_rfl
  have h : (Op.equal 45 .nilFunc .nilFunc).run Tryz.prog w = .ok true w := by
    show (Op.equalIn (9999 + 1) 45 .nilFunc .nilFunc).run Tryz.prog w = .ok true w
    rw [Op.equalIn]
    simp [Sem.run_bind, run_underlying hu, Result.andThen]
  simp [binOp, h]
theorem nD_neN (w : World) (f : Fn) (a c : Array Value) : (binOp .neq 45 .nilFunc .nilFunc).run Tryz.prog w = .ok (.bool false) w := by
  have hu : Tryz.prog.underlying 45 = some (.func #[30, 30] #[30, 34] false) := by kernel_rfl
  have h : (Op.equal 45 .nilFunc .nilFunc).run Tryz.prog w = .ok true w := by
    show (Op.equalIn (9999 + 1) 45 .nilFunc .nilFunc).run Tryz.prog w = .ok true w
    rw [Op.equalIn]
    simp [Sem.run_bind, run_underlying hu, Result.andThen]
  simp [binOp, h]
/-- What a call answers: an array and an error. -/
def AnsQ (w : World) (Φ : List Int → List Int → Prop) (E : Int) (e : Ending) (w' : World) : Prop := ∃ o1 n1 c1 o2 n2 c2 S A, e = .returned (.tuple #[.agg #[.slice o1 n1 c1, .slice o2 n2 c2], .int .i64 E]) ∧ Ft 3 w' w.heap.size o1 n1 c1 S ∧ Ft 2 w' w.heap.size o2 n2 c2 A ∧ Φ S A ∧ Below w.heap.size w w'

set_option maxHeartbeats 1000000 in
theorem match_any (so ao uo bo : Option Addr) (sn sc an ac un uc bn bc : Nat) (sh at' th bt' : List Int) (w : World) (h : Rd w so sn sh) (g : Rd w ao an at') (h2 : Rd w uo un th) (g2 : Rd w bo bn bt') :
    Calls Tryz.prog 49 #[.agg #[.slice so sn sc, .slice ao an ac], .agg #[.slice uo un uc, .slice bo bn bc]] w fun e w' => AnsQ w (fun S A => S = [] ∧ A = [if eqA sh at' th bt' then 1 else 0]) 0 e w' := by
  have D0 := du_startQ w so sn sc ao an ac uo un uc bo bn bc
  have hsm := same_any so ao uo bo sn sc an ac un uc bn bc sh at' th bt' _ (h.below D0.bel (Nat.le_refl _)) (g.below D0.bel (Nat.le_refl _)) (h2.below D0.bel (Nat.le_refl _)) (g2.below D0.bel (Nat.le_refl _))
  obtain ⟨q0, q1, _, _⟩ := box2 D0.x
  obtain ⟨y0, y1, _, _⟩ := box2 D0.y
  generalize eqA sh at' th bt' = b at *
  have ht := fun V => truth_any b V
  have hb : -9223372036854775808 ≤ (if b = true then (1 : Int) else 0) ∧ (if b = true then (1 : Int) else 0) ≤ 9223372036854775807 := by cases b <;> simp
  generalize (if b = true then (1 : Int) else 0) = u at *
  go_enter Tryz.func49, Tryz.ntmps49
  go_wp2_with (first
    | (go_at_call 75; (with_reducible refine hsm.mono ?_); rintro e w1 ⟨rfl, lb⟩; have D1 := D0.below lb D0.sz)
    | (go_at_call 63; (with_reducible refine (ht _).mono ?_); rintro e w3 ⟨rfl, hw3⟩; rw [hw3]; clear hw3 w3)
    | (go_at_call 74; (with_reducible refine (scalar_any u w1 hb.1 hb.2).mono ?_); rintro e w2 ⟨o2, c2, rfl, f2, b2⟩; have D2 := D1.below b2 D1.sz; have s1 := D1.sz; obtain ⟨r0, r1, r2, r3⟩ := box2 D2.r))
  (try simp only [Exit.inBlock, Exit.then])
  refine bodyPost_ret (v := .tuple #[.agg #[.slice none 0 0, .slice o2 1 c2], .int .i64 0]) (by rw [results_cell_tmp rfl]; go_simp) rfl ?_
  exact ⟨none, 0, 0, o2, 1, c2, [], [u], rfl, Ft.nil _ _ _, (ft_setQ f2 (by omega) _ _).mono (by omega), ⟨rfl, rfl⟩, below_set2 _ _ _ _ D2.bel (by omega) (Nat.le_refl _)⟩

set_option maxHeartbeats 1000000 in
theorem from_bad (so ao uo bo : Option Addr) (sn sc an ac un uc bn bc : Nat) (w : World) (hn : 0 < sn) :
    Calls Tryz.prog 38 #[.agg #[.slice so sn sc, .slice ao an ac], .agg #[.slice uo un uc, .slice bo bn bc]] w fun e w' => AnsQ w (fun S A => S = [] ∧ A = []) 12 e w' := by
  have D0 := du_startQ w so sn sc ao an ac uo un uc bo bn bc
  obtain ⟨q0, q1, _, _⟩ := box2 D0.x
  obtain ⟨r0, r1, r2, r3⟩ := box2 D0.r
  have t1 : decide (0 < sn) = true := by simpa using hn
  have t2 : (0 : Int) < (sn : Int) := by omega
  go_enter Tryz.func38, Tryz.ntmps38
  go_wp2
  (try simp only [Exit.inBlock, Exit.then])
  go_returns
  exact ⟨none, 0, 0, none, 0, 0, [], [], rfl, Ft.nil _ _ _, Ft.nil _ _ _, ⟨rfl, rfl⟩, by first | exact D0.bel | exact below_set2 _ _ _ _ D0.bel (by omega) (Nat.le_refl _)⟩

set_option maxHeartbeats 2000000 in
theorem from_ok (so ao uo bo : Option Addr) (sc an ac un uc bn bc : Nat) (x : Int) (at' th bt' : List Int) (w : World) (g : Rd w ao an at') (han : 0 < an) (hx : nth at' 0 = x) (h2 : Rd w uo un th) (hs2 : Sl uo un uc) (g2 : Rd w bo bn bt') (gs2 : Sl bo bn bc) :
    Calls Tryz.prog 38 #[.agg #[.slice so 0 sc, .slice ao an ac], .agg #[.slice uo un uc, .slice bo bn bc]] w fun e w' => AnsQ w (fun S A => S = itmS th bt' x ∧ A = itmA th bt' x) (itmE th bt' x) e w' := by
  have D0 := du_startQ w so 0 sc ao an ac uo un uc bo bn bc
  have D1 : DuQ w (((w.alloc (.cells #[.slice so 0 sc, .slice ao an ac] 30)).alloc (.cells #[.slice uo un uc, .slice bo bn bc] 30)).alloc (.cells #[.slice none 0 0, .slice none 0 0] 30)).drew so 0 sc ao an ac uo un uc bo bn bc := D0.below (B := w.heap.size + 3) (Below.refl _ _).drew (Nat.le_refl _)
  obtain ⟨b, off, rfl, hb, hc⟩ := g.cells han
  have cx := hc 0 han
  rw [Nat.add_zero, hx] at cx
  have hit := item_any uo bo un uc bn bc th bt' x _ (h2.below D1.bel (Nat.le_refl _)) hs2 (g2.below D1.bel (Nat.le_refl _)) gs2
  obtain ⟨q0, q1, _, _⟩ := box2 D0.x
  have al : ∀ V, DuQ w V so 0 sc (some ⟨b, off, none⟩) an ac uo un uc bo bn bc → V.cell? ⟨w.heap.size + 1, 0, none⟩ = some (.slice uo un uc) ∧ V.cell? ⟨w.heap.size + 1, 1, none⟩ = some (.slice bo bn bc) ∧ V.cell? ⟨w.heap.size, 1, none⟩ = some (.slice (some ⟨b, off, none⟩) an ac) ∧ V.cell? ⟨b, off, none⟩ = some (.int .i64 x) := fun V D => ⟨(box2 D.y).1, (box2 D.y).2.1, (box2 D.x).2.1, (D.bel.cell (p := ⟨b, off, none⟩) hb).trans cx⟩
  generalize itmE th bt' x = E at *
  generalize itmS th bt' x = S0 at *
  generalize itmA th bt' x = A0 at *
  have ban : (0 : Int) < (an : Int) := by omega
  have ban2 : 0 < an := han
  clear hc hx
  go_enter Tryz.func38, Tryz.ntmps38
  go_wp2
  go_region_held3 (fun V => V.cell? ⟨w.heap.size + 1, 0, none⟩ = some (.slice uo un uc) ∧ V.cell? ⟨w.heap.size + 1, 1, none⟩ = some (.slice bo bn bc) ∧ V.cell? ⟨w.heap.size, 1, none⟩ = some (.slice (some ⟨b, off, none⟩) an ac) ∧ V.cell? ⟨b, off, none⟩ = some (.int .i64 x)) (first | exact al _ D1 | exact al _ D2 | exact S6)
    (first
      | (go_at_call 57; (with_reducible refine hit.mono ?_); rintro e w4 ⟨o1, n1, c1, o2, n2, c2, rfl, F1, F2, _, b4⟩; have D2 := D1.below b4 D1.sz; have s1 := D1.sz; have s2 := D2.sz; obtain ⟨r0, r1, r2, r3⟩ := box2 D2.r; have kk := set2 w4 (w.heap.size + 1 + 1) 0 1 (.slice o1 n1 c1) (.slice o2 n2 c2); have yy := box2 ((kk.block (w.heap.size + 1) (by omega) (fun e => by injection e with e; omega)).trans D2.y); have xx := box2 ((kk.block w.heap.size (by omega) (fun e => by injection e with e; omega)).trans D2.x); have cc := kk.cell ((D2.bel.cell (p := ⟨b, off, none⟩) hb).trans cx) (fun e => by injection e with e; have e' : b = w.heap.size + 1 + 1 := e; omega); have S6 : _ ∧ _ ∧ _ ∧ _ := ⟨yy.1, yy.2.1, xx.2.1, cc⟩))
  go_wp2
  (try simp only [Exit.inBlock, Exit.then])
  refine bodyPost_ret (v := .tuple #[.agg #[.slice o1 n1 c1, .slice o2 n2 c2], .int .i64 E]) (by rw [results_cell_tmp rfl]; go_simp) rfl ?_
  exact ⟨o1, n1, c1, o2, n2, c2, S0, A0, rfl, (ft_setQ F1 (by omega) _ _).mono (by omega), (ft_setQ F2 (by omega) _ _).mono (by omega), ⟨rfl, rfl⟩, below_set2 _ _ _ _ D2.bel (by omega) (Nat.le_refl _)⟩

set_option maxHeartbeats 2000000 in
theorem dyadS_from (xso xo so ao : Option Addr) (xsn xsc xn xc sn sc an ac : Nat) (sx ax sy ay : List Int) (Φ : List Int → List Int → Prop) (E : Int) (w : World) (hsx : Rd w xso xsn sx) (hax : Rd w xo xn ax) (hsy : Rd w so sn sy) (hay : Rd w ao an ay) (mx : mayA sx ax = 0) (my : mayA sy ay = 0)
    (hc : ∀ V, Below w.heap.size w V → Calls Tryz.prog 38 #[.agg #[.slice xso xsn xsc, .slice xo xn xc], .agg #[.slice so sn sc, .slice ao an ac]] V fun e w' => AnsQ V Φ E e w') :
    Calls Tryz.prog 14 #[.int .i64 27, .agg #[.slice xso xsn xsc, .slice xo xn xc], .agg #[.slice so sn sc, .slice ao an ac]] w fun e w' => AnsQ w Φ E e w' := by
  have D0 := du_startQ w xso xsn xsc xo xn xc so sn sc ao an ac
  have s0 := D0.sz
  have cM1 := mayA_any xso xo xsn xsc xn xc sx ax _ (hsx.below D0.bel (Nat.le_refl _)) (hax.below D0.bel (Nat.le_refl _))
  have cM2 := fun V (D : DuQ w V xso xsn xsc xo xn xc so sn sc ao an ac) => mayA_any so ao sn sc an ac sy ay V (hsy.below D.bel (Nat.le_refl _)) (hay.below D.bel (Nat.le_refl _))
  rw [mx] at cM1
  rw [my] at cM2
  have cD := fun V => rowOf_27 V
  obtain ⟨x0, x1, _, _⟩ := box2 D0.x
  obtain ⟨x2, x3, _, _⟩ := box2 D0.y
  clear mx my
  have hnil := fun V => nD_eqF V (.func 38) #[] #[]
  go_enter Tryz.func14, Tryz.ntmps14
  go_wp2_with (first
    | (go_at_call 20; (with_reducible refine cM1.mono ?_); rintro e w1 ⟨rfl, k1⟩; have D1 := D0.below k1 s0; have s1 := D1.sz; obtain ⟨y0, y1, _, _⟩ := box2 D1.x; obtain ⟨y2, y3, _, _⟩ := box2 D1.y)
    | (go_at_call 20; (with_reducible refine (cM2 w1 D1).mono ?_); rintro e w2 ⟨rfl, k2⟩; have D2 := D1.below k2 s1; have s2 := D2.sz)
    | (go_at_call 15; (with_reducible refine (cD w2).mono ?_); rintro e w3 ⟨rfl, k3⟩; have D3 := D2.below k3 s2; have s3 := D3.sz; have D4 := D3.below (box_below w3 (.cells #[.int .i64 27, .nilFunc, .func (.func 38) #[] #[]] 47)) s3; obtain ⟨v0, v1, _, _⟩ := box2 D4.x; obtain ⟨v2, v3, _, _⟩ := box2 D4.y)
    | (go_at_call 38; (with_reducible refine (hc _ D4.bel).mono ?_); rintro e w5 ⟨o1, n1, c1, o2, n2, c2, S, A, rfl, f1, f2, hΦ, k5⟩; have s4 := D4.sz; have D5 := D4.below k5 s4; obtain ⟨z0, z1, z2, z3⟩ := box2 D5.r))
  (try simp only [Exit.inBlock, Exit.then])
  refine bodyPost_ret (v := .tuple #[.agg #[.slice o1 n1 c1, .slice o2 n2 c2], .int .i64 E]) (by rw [results_cell_tmp rfl]; go_simp) rfl ?_
  exact ⟨o1, n1, c1, o2, n2, c2, S, A, rfl, (ft_setQ f1 (by omega) _ _).mono (by omega), (ft_setQ f2 (by omega) _ _).mono (by omega), hΦ, below_set2 _ _ _ _ D5.bel (by omega) (Nat.le_refl _)⟩

set_option maxHeartbeats 2000000 in
theorem dyadS_iota (xso xo so ao : Option Addr) (xsn xsc xn xc sn sc an ac : Nat) (sx ax sy ay : List Int) (Φ : List Int → List Int → Prop) (E : Int) (w : World) (hsx : Rd w xso xsn sx) (hax : Rd w xo xn ax) (hsy : Rd w so sn sy) (hay : Rd w ao an ay) (mx : mayA sx ax = 0) (my : mayA sy ay = 0)
    (hc : ∀ V, Below w.heap.size w V → Calls Tryz.prog 39 #[.agg #[.slice xso xsn xsc, .slice xo xn xc], .agg #[.slice so sn sc, .slice ao an ac]] V fun e w' => AnsQ V Φ E e w') :
    Calls Tryz.prog 14 #[.int .i64 34, .agg #[.slice xso xsn xsc, .slice xo xn xc], .agg #[.slice so sn sc, .slice ao an ac]] w fun e w' => AnsQ w Φ E e w' := by
  have D0 := du_startQ w xso xsn xsc xo xn xc so sn sc ao an ac
  have s0 := D0.sz
  have cM1 := mayA_any xso xo xsn xsc xn xc sx ax _ (hsx.below D0.bel (Nat.le_refl _)) (hax.below D0.bel (Nat.le_refl _))
  have cM2 := fun V (D : DuQ w V xso xsn xsc xo xn xc so sn sc ao an ac) => mayA_any so ao sn sc an ac sy ay V (hsy.below D.bel (Nat.le_refl _)) (hay.below D.bel (Nat.le_refl _))
  rw [mx] at cM1
  rw [my] at cM2
  have cD := fun V => rowOf_34 V
  obtain ⟨x0, x1, _, _⟩ := box2 D0.x
  obtain ⟨x2, x3, _, _⟩ := box2 D0.y
  clear mx my
  have hnil := fun V => nD_eqF V (.func 39) #[] #[]
  go_enter Tryz.func14, Tryz.ntmps14
  go_wp2_with (first
    | (go_at_call 20; (with_reducible refine cM1.mono ?_); rintro e w1 ⟨rfl, k1⟩; have D1 := D0.below k1 s0; have s1 := D1.sz; obtain ⟨y0, y1, _, _⟩ := box2 D1.x; obtain ⟨y2, y3, _, _⟩ := box2 D1.y)
    | (go_at_call 20; (with_reducible refine (cM2 w1 D1).mono ?_); rintro e w2 ⟨rfl, k2⟩; have D2 := D1.below k2 s1; have s2 := D2.sz)
    | (go_at_call 15; (with_reducible refine (cD w2).mono ?_); rintro e w3 ⟨rfl, k3⟩; have D3 := D2.below k3 s2; have s3 := D3.sz; have D4 := D3.below (box_below w3 (.cells #[.int .i64 34, .nilFunc, .func (.func 39) #[] #[]] 47)) s3; obtain ⟨v0, v1, _, _⟩ := box2 D4.x; obtain ⟨v2, v3, _, _⟩ := box2 D4.y)
    | (go_at_call 39; (with_reducible refine (hc _ D4.bel).mono ?_); rintro e w5 ⟨o1, n1, c1, o2, n2, c2, S, A, rfl, f1, f2, hΦ, k5⟩; have s4 := D4.sz; have D5 := D4.below k5 s4; obtain ⟨z0, z1, z2, z3⟩ := box2 D5.r))
  (try simp only [Exit.inBlock, Exit.then])
  refine bodyPost_ret (v := .tuple #[.agg #[.slice o1 n1 c1, .slice o2 n2 c2], .int .i64 E]) (by rw [results_cell_tmp rfl]; go_simp) rfl ?_
  exact ⟨o1, n1, c1, o2, n2, c2, S, A, rfl, (ft_setQ f1 (by omega) _ _).mono (by omega), (ft_setQ f2 (by omega) _ _).mono (by omega), hΦ, below_set2 _ _ _ _ D5.bel (by omega) (Nat.le_refl _)⟩

set_option maxHeartbeats 2000000 in
theorem monadS_nub (so ao : Option Addr) (sn sc an ac : Nat) (sy ay : List Int) (Φ : List Int → List Int → Prop) (E : Int) (w : World) (hsy : Rd w so sn sy) (hay : Rd w ao an ay) (my : mayA sy ay = 0)
    (hc : ∀ V, Below w.heap.size w V → Calls Tryz.prog 41 #[.agg #[.slice so sn sc, .slice ao an ac]] V fun e w' => AnsQ V Φ E e w') :
    Calls Tryz.prog 12 #[.int .i64 36, .agg #[.slice so sn sc, .slice ao an ac]] w fun e w' => AnsQ w Φ E e w' := by
  have U0 := un_startQ w so sn sc ao an ac
  have s0 := U0.sz
  have cM1 := mayA_any so ao sn sc an ac sy ay _ (hsy.below U0.bel (Nat.le_refl _)) (hay.below U0.bel (Nat.le_refl _))
  rw [my] at cM1
  have cD := fun V => rowOf_36 V
  obtain ⟨x0, x1, _, _⟩ := box2 U0.x
  clear my
  have hnil := fun V => nM_eqF V (.func 41) #[] #[]
  go_enter Tryz.func12, Tryz.ntmps12
  go_wp2_with (first
    | (go_at_call 20; (with_reducible refine cM1.mono ?_); rintro e w1 ⟨rfl, k1⟩; have U1 := U0.below k1 s0; have s1 := U1.sz)
    | (go_at_call 15; (with_reducible refine (cD w1).mono ?_); rintro e w3 ⟨rfl, k3⟩; have U3 := U1.below k3 s1; have s3 := U3.sz; have U4 := U3.below (box_below w3 (.cells #[.int .i64 36, .func (.func 41) #[] #[], .nilFunc] 47)) s3; obtain ⟨v0, v1, _, _⟩ := box2 U4.x)
    | (go_at_call 41; (with_reducible refine (hc _ U4.bel).mono ?_); rintro e w5 ⟨o1, n1, c1, o2, n2, c2, S, A, rfl, f1, f2, hΦ, k5⟩; have s4 := U4.sz; have U5 := U4.below k5 s4; obtain ⟨z0, z1, z2, z3⟩ := box2 U5.r))
  (try simp only [Exit.inBlock, Exit.then])
  refine bodyPost_ret (v := .tuple #[.agg #[.slice o1 n1 c1, .slice o2 n2 c2], .int .i64 E]) (by rw [results_cell_tmp rfl]; go_simp) rfl ?_
  exact ⟨o1, n1, c1, o2, n2, c2, S, A, rfl, (ft_setQ f1 (by omega) _ _).mono (by omega), (ft_setQ f2 (by omega) _ _).mono (by omega), hΦ, below_set2 _ _ _ _ U5.bel (by omega) (Nat.le_refl _)⟩

set_option maxHeartbeats 2000000 in
theorem monadS_up (so ao : Option Addr) (sn sc an ac : Nat) (sy ay : List Int) (Φ : List Int → List Int → Prop) (E : Int) (w : World) (hsy : Rd w so sn sy) (hay : Rd w ao an ay) (my : mayA sy ay = 0)
    (hc : ∀ V, Below w.heap.size w V → Calls Tryz.prog 44 #[.agg #[.slice so sn sc, .slice ao an ac]] V fun e w' => AnsQ V Φ E e w') :
    Calls Tryz.prog 12 #[.int .i64 37, .agg #[.slice so sn sc, .slice ao an ac]] w fun e w' => AnsQ w Φ E e w' := by
  have U0 := un_startQ w so sn sc ao an ac
  have s0 := U0.sz
  have cM1 := mayA_any so ao sn sc an ac sy ay _ (hsy.below U0.bel (Nat.le_refl _)) (hay.below U0.bel (Nat.le_refl _))
  rw [my] at cM1
  have cD := fun V => rowOf_37 V
  obtain ⟨x0, x1, _, _⟩ := box2 U0.x
  clear my
  have hnil := fun V => nM_eqF V (.func 44) #[] #[]
  go_enter Tryz.func12, Tryz.ntmps12
  go_wp2_with (first
    | (go_at_call 20; (with_reducible refine cM1.mono ?_); rintro e w1 ⟨rfl, k1⟩; have U1 := U0.below k1 s0; have s1 := U1.sz)
    | (go_at_call 15; (with_reducible refine (cD w1).mono ?_); rintro e w3 ⟨rfl, k3⟩; have U3 := U1.below k3 s1; have s3 := U3.sz; have U4 := U3.below (box_below w3 (.cells #[.int .i64 37, .func (.func 44) #[] #[], .func (.func 45) #[] #[]] 47)) s3; obtain ⟨v0, v1, _, _⟩ := box2 U4.x)
    | (go_at_call 44; (with_reducible refine (hc _ U4.bel).mono ?_); rintro e w5 ⟨o1, n1, c1, o2, n2, c2, S, A, rfl, f1, f2, hΦ, k5⟩; have s4 := U4.sz; have U5 := U4.below k5 s4; obtain ⟨z0, z1, z2, z3⟩ := box2 U5.r))
  (try simp only [Exit.inBlock, Exit.then])
  refine bodyPost_ret (v := .tuple #[.agg #[.slice o1 n1 c1, .slice o2 n2 c2], .int .i64 E]) (by rw [results_cell_tmp rfl]; go_simp) rfl ?_
  exact ⟨o1, n1, c1, o2, n2, c2, S, A, rfl, (ft_setQ f1 (by omega) _ _).mono (by omega), (ft_setQ f2 (by omega) _ _).mono (by omega), hΦ, below_set2 _ _ _ _ U5.bel (by omega) (Nat.le_refl _)⟩

set_option maxHeartbeats 2000000 in
theorem dyadS_match (xso xo so ao : Option Addr) (xsn xsc xn xc sn sc an ac : Nat) (sx ax sy ay : List Int) (Φ : List Int → List Int → Prop) (E : Int) (w : World) (hsx : Rd w xso xsn sx) (hax : Rd w xo xn ax) (hsy : Rd w so sn sy) (hay : Rd w ao an ay) (mx : mayA sx ax = 0) (my : mayA sy ay = 0)
    (hc : ∀ V, Below w.heap.size w V → Calls Tryz.prog 49 #[.agg #[.slice xso xsn xsc, .slice xo xn xc], .agg #[.slice so sn sc, .slice ao an ac]] V fun e w' => AnsQ V Φ E e w') :
    Calls Tryz.prog 14 #[.int .i64 19, .agg #[.slice xso xsn xsc, .slice xo xn xc], .agg #[.slice so sn sc, .slice ao an ac]] w fun e w' => AnsQ w Φ E e w' := by
  have D0 := du_startQ w xso xsn xsc xo xn xc so sn sc ao an ac
  have s0 := D0.sz
  have cM1 := mayA_any xso xo xsn xsc xn xc sx ax _ (hsx.below D0.bel (Nat.le_refl _)) (hax.below D0.bel (Nat.le_refl _))
  have cM2 := fun V (D : DuQ w V xso xsn xsc xo xn xc so sn sc ao an ac) => mayA_any so ao sn sc an ac sy ay V (hsy.below D.bel (Nat.le_refl _)) (hay.below D.bel (Nat.le_refl _))
  rw [mx] at cM1
  rw [my] at cM2
  have cD := fun V => rowOf_19 V
  obtain ⟨x0, x1, _, _⟩ := box2 D0.x
  obtain ⟨x2, x3, _, _⟩ := box2 D0.y
  clear mx my
  have hnil := fun V => nD_eqF V (.func 49) #[] #[]
  go_enter Tryz.func14, Tryz.ntmps14
  go_wp2_with (first
    | (go_at_call 20; (with_reducible refine cM1.mono ?_); rintro e w1 ⟨rfl, k1⟩; have D1 := D0.below k1 s0; have s1 := D1.sz; obtain ⟨y0, y1, _, _⟩ := box2 D1.x; obtain ⟨y2, y3, _, _⟩ := box2 D1.y)
    | (go_at_call 20; (with_reducible refine (cM2 w1 D1).mono ?_); rintro e w2 ⟨rfl, k2⟩; have D2 := D1.below k2 s1; have s2 := D2.sz)
    | (go_at_call 15; (with_reducible refine (cD w2).mono ?_); rintro e w3 ⟨rfl, k3⟩; have D3 := D2.below k3 s2; have s3 := D3.sz; have D4 := D3.below (box_below w3 (.cells #[.int .i64 19, .nilFunc, .func (.func 49) #[] #[]] 47)) s3; obtain ⟨v0, v1, _, _⟩ := box2 D4.x; obtain ⟨v2, v3, _, _⟩ := box2 D4.y)
    | (go_at_call 49; (with_reducible refine (hc _ D4.bel).mono ?_); rintro e w5 ⟨o1, n1, c1, o2, n2, c2, S, A, rfl, f1, f2, hΦ, k5⟩; have s4 := D4.sz; have D5 := D4.below k5 s4; obtain ⟨z0, z1, z2, z3⟩ := box2 D5.r))
  (try simp only [Exit.inBlock, Exit.then])
  refine bodyPost_ret (v := .tuple #[.agg #[.slice o1 n1 c1, .slice o2 n2 c2], .int .i64 E]) (by rw [results_cell_tmp rfl]; go_simp) rfl ?_
  exact ⟨o1, n1, c1, o2, n2, c2, S, A, rfl, (ft_setQ f1 (by omega) _ _).mono (by omega), (ft_setQ f2 (by omega) _ _).mono (by omega), hΦ, below_set2 _ _ _ _ D5.bel (by omega) (Nat.le_refl _)⟩

set_option maxHeartbeats 1000000 in
/-- Arrays that may not be are refused, whatever the op. -/
theorem monadS_bad (op : Int) (so ao : Option Addr) (sn sc an ac : Nat) (sy ay : List Int) (w : World) (hsy : Rd w so sn sy) (hay : Rd w ao an ay) (my : mayA sy ay ≠ 0) :
    Calls Tryz.prog 12 #[.int .i64 op, .agg #[.slice so sn sc, .slice ao an ac]] w fun e w' => AnsQ w (fun S A => S = [] ∧ A = []) 1 e w' := by
  have U0 := un_startQ w so sn sc ao an ac
  have s0 := U0.sz
  have cM1 := mayA_any so ao sn sc an ac sy ay _ (hsy.below U0.bel (Nat.le_refl _)) (hay.below U0.bel (Nat.le_refl _))
  obtain ⟨x0, x1, _, _⟩ := box2 U0.x
  generalize mayA sy ay = M at *
  have t1 : (M != 0) = true := by simpa using my
  clear my
  go_enter Tryz.func12, Tryz.ntmps12
  go_wp2_with (first
    | (go_at_call 20; (with_reducible refine cM1.mono ?_); rintro e w1 ⟨rfl, k1⟩; have U1 := U0.below k1 s0; obtain ⟨r0, r1, r2, r3⟩ := box2 U1.r))
  (try simp only [Exit.inBlock, Exit.then])
  refine bodyPost_ret (v := .tuple #[.agg #[.slice none 0 0, .slice none 0 0], .int .i64 1]) (by rw [results_cell_tmp rfl]; go_simp) rfl ?_
  exact ⟨none, 0, 0, none, 0, 0, [], [], rfl, Ft.nil _ _ _, Ft.nil _ _ _, ⟨rfl, rfl⟩, below_set2 _ _ _ _ U1.bel (by omega) (Nat.le_refl _)⟩

set_option maxHeartbeats 1000000 in
theorem dyadS_badx (op : Int) (xso xo so ao : Option Addr) (xsn xsc xn xc sn sc an ac : Nat) (sx ax sy ay : List Int) (w : World) (hsx : Rd w xso xsn sx) (hax : Rd w xo xn ax) (hsy : Rd w so sn sy) (hay : Rd w ao an ay) (mx : mayA sx ax ≠ 0) :
    Calls Tryz.prog 14 #[.int .i64 op, .agg #[.slice xso xsn xsc, .slice xo xn xc], .agg #[.slice so sn sc, .slice ao an ac]] w fun e w' => AnsQ w (fun S A => S = [] ∧ A = []) 1 e w' := by
  have D0 := du_startQ w xso xsn xsc xo xn xc so sn sc ao an ac
  have s0 := D0.sz
  have cM1 := mayA_any xso xo xsn xsc xn xc sx ax _ (hsx.below D0.bel (Nat.le_refl _)) (hax.below D0.bel (Nat.le_refl _))
  have cM2 := fun V (D : DuQ w V xso xsn xsc xo xn xc so sn sc ao an ac) => mayA_any so ao sn sc an ac sy ay V (hsy.below D.bel (Nat.le_refl _)) (hay.below D.bel (Nat.le_refl _))
  obtain ⟨x0, x1, _, _⟩ := box2 D0.x
  obtain ⟨x2, x3, _, _⟩ := box2 D0.y
  generalize mayA sx ax = M at *
  have t1 : (M != 0) = true := by simpa using mx
  clear mx
  go_enter Tryz.func14, Tryz.ntmps14
  go_wp2_with (first
    | (go_at_call 20; (with_reducible refine cM1.mono ?_); rintro e w1 ⟨rfl, k1⟩; have D1 := D0.below k1 s0; obtain ⟨r0, r1, r2, r3⟩ := box2 D1.r))
  (try simp only [Exit.inBlock, Exit.then])
  refine bodyPost_ret (v := .tuple #[.agg #[.slice none 0 0, .slice none 0 0], .int .i64 1]) (by rw [results_cell_tmp rfl]; go_simp) rfl ?_
  exact ⟨none, 0, 0, none, 0, 0, [], [], rfl, Ft.nil _ _ _, Ft.nil _ _ _, ⟨rfl, rfl⟩, below_set2 _ _ _ _ D1.bel (by omega) (Nat.le_refl _)⟩

set_option maxHeartbeats 1000000 in
theorem dyadS_bady (op : Int) (xso xo so ao : Option Addr) (xsn xsc xn xc sn sc an ac : Nat) (sx ax sy ay : List Int) (w : World) (hsx : Rd w xso xsn sx) (hax : Rd w xo xn ax) (hsy : Rd w so sn sy) (hay : Rd w ao an ay) (mx : mayA sx ax = 0) (my : mayA sy ay ≠ 0) :
    Calls Tryz.prog 14 #[.int .i64 op, .agg #[.slice xso xsn xsc, .slice xo xn xc], .agg #[.slice so sn sc, .slice ao an ac]] w fun e w' => AnsQ w (fun S A => S = [] ∧ A = []) 1 e w' := by
  have D0 := du_startQ w xso xsn xsc xo xn xc so sn sc ao an ac
  have s0 := D0.sz
  have cM1 := mayA_any xso xo xsn xsc xn xc sx ax _ (hsx.below D0.bel (Nat.le_refl _)) (hax.below D0.bel (Nat.le_refl _))
  have cM2 := fun V (D : DuQ w V xso xsn xsc xo xn xc so sn sc ao an ac) => mayA_any so ao sn sc an ac sy ay V (hsy.below D.bel (Nat.le_refl _)) (hay.below D.bel (Nat.le_refl _))
  obtain ⟨x0, x1, _, _⟩ := box2 D0.x
  obtain ⟨x2, x3, _, _⟩ := box2 D0.y
  rw [mx] at cM1
  generalize mayA sy ay = M at *
  have t1 : (M != 0) = true := by simpa using my
  clear my mx
  go_enter Tryz.func14, Tryz.ntmps14
  go_wp2_with (first
    | (go_at_call 20; (with_reducible refine cM1.mono ?_); rintro e w0 ⟨rfl, k0⟩; have Dz := D0.below k0 s0; have sz := Dz.sz; obtain ⟨y2, y3, _, _⟩ := box2 Dz.y)
    | (go_at_call 20; (with_reducible refine (cM2 w0 Dz).mono ?_); rintro e w1 ⟨rfl, k1⟩; have D1 := Dz.below k1 sz; obtain ⟨r0, r1, r2, r3⟩ := box2 D1.r))
  (try simp only [Exit.inBlock, Exit.then])
  refine bodyPost_ret (v := .tuple #[.agg #[.slice none 0 0, .slice none 0 0], .int .i64 1]) (by rw [results_cell_tmp rfl]; go_simp) rfl ?_
  exact ⟨none, 0, 0, none, 0, 0, [], [], rfl, Ft.nil _ _ _, Ft.nil _ _ _, ⟨rfl, rfl⟩, below_set2 _ _ _ _ D1.bel (by omega) (Nat.le_refl _)⟩

theorem hasS_36_1 (w : World) : Calls Tryz.prog 5 #[.int .i64 36, .int .i64 1] w fun e w' => e = .returned (.bool true) ∧ Below w.heap.size w w' := by
  have cD := fun V => rowOf_36 V
  have hn1 := fun V => nM_neF V (.func 41) #[] #[]
  have hn2 := fun V => nD_neN V (.func 41) #[] #[]
  go_enter Tryz.func5, Tryz.ntmps5
  go_wp2_with (go_at_call 15; (with_reducible refine (cD _).mono ?_); rintro e w3 ⟨rfl, k3⟩)
  go_ret
  exact ⟨rfl, k3.trans ((box_below w3 _).mono k3.size)⟩
theorem hasS_36_2 (w : World) : Calls Tryz.prog 5 #[.int .i64 36, .int .i64 2] w fun e w' => e = .returned (.bool false) ∧ Below w.heap.size w w' := by
  have cD := fun V => rowOf_36 V
  have hn1 := fun V => nM_neF V (.func 41) #[] #[]
  have hn2 := fun V => nD_neN V (.func 41) #[] #[]
  go_enter Tryz.func5, Tryz.ntmps5
  go_wp2_with (go_at_call 15; (with_reducible refine (cD _).mono ?_); rintro e w3 ⟨rfl, k3⟩)
  go_ret
  exact ⟨rfl, k3.trans ((box_below w3 _).mono k3.size)⟩
end Go.Proofs.YtmepcenbaohcoaaGreat
