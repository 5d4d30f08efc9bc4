
/- Contracts of package digit: Monad, Dyad and Has. -/

import Derived.Test.YtjnlkdeiccllgaaZM

namespace Go.Proofs.Ytjnlkdeiccllgaa

open Go.RowKit

set_option linter.unusedVariables false

theorem nM_eqF (w : World) (f : Fn) (a c : Array Value) : (binOp .eql 43 (.func f a c) .nilFunc).run Try.prog w = .ok (.bool false) w := by
  have hu : Try.prog.underlying 43 = some (.func #[26] #[26, 27] false) := by kernel_rfl
  have h : (Op.equal 43 (.func f a c) .nilFunc).run Try.prog w = .ok false w := by
    show (Op.equalIn (9999 + 1) 43 (.func f a c) .nilFunc).run Try.prog w = .ok false w
    rw [Op.equalIn]
    simp [Sem.run_bind, run_underlying hu, Result.andThen]
  simp [binOp, h]
theorem nM_eqN (w : World) (f : Fn) (a c : Array Value) : (binOp .eql 43 .nilFunc .nilFunc).run Try.prog w = .ok (.bool true) w := by
  have hu : Try.prog.underlying 43 = some (.func #[26] #[26, 27] false) := by kernel_rfl
  have h : (Op.equal 43 .nilFunc .nilFunc).run Try.prog w = .ok true w := by
    show (Op.equalIn (9999 + 1) 43 .nilFunc .nilFunc).run Try.prog w = .ok true w
    rw [Op.equalIn]
    simp [Sem.run_bind, run_underlying hu, Result.andThen]
  simp [binOp, h]
theorem nM_neF (w : World) (f : Fn) (a c : Array Value) : (binOp .neq 43 (.func f a c) .nilFunc).run Try.prog w = .ok (.bool true) w := by
  have hu : Try.prog.underlying 43 = some (.func #[26] #[26, 27] false) := by kernel_rfl
  have h : (Op.equal 43 (.func f a c) .nilFunc).run Try.prog w = .ok false w := by
    show (Op.equalIn (9999 + 1) 43 (.func f a c) .nilFunc).run Try.prog w = .ok false w
    rw [Op.equalIn]
    simp [Sem.run_bind, run_underlying hu, Result.andThen]
  simp [binOp, h]
theorem nM_neN (w : World) (f : Fn) (a c : Array Value) : (binOp .neq 43 .nilFunc .nilFunc).run Try.prog w = .ok (.bool false) w := by
  have hu : Try.prog.underlying 43 = some (.func #[26] #[26, 27] false) := by kernel_rfl
  have h : (Op.equal 43 .nilFunc .nilFunc).run Try.prog w = .ok true w := by
    show (Op.equalIn (9999 + 1) 43 .nilFunc .nilFunc).run Try.prog w = .ok true w
    rw [Op.equalIn]
    simp [Sem.run_bind, run_underlying hu, Result.andThen]
  simp [binOp, h]
theorem nD_eqF (w : World) (f : Fn) (a c : Array Value) : (binOp .eql 44 (.func f a c) .nilFunc).run Try.prog w = .ok (.bool false) w := by
  have hu : Try.prog.underlying 44 = some (.func #[26, 26] #[26, 27] false) := by kernel_rfl
  have h : (Op.equal 44 (.func f a c) .nilFunc).run Try.prog w = .ok false w := by
    show (Op.equalIn (9999 + 1) 44 (.func f a c) .nilFunc).run Try.prog w = .ok false w
    rw [Op.equalIn]
    simp [Sem.run_bind, run_underlying hu, Result.andThen]
  simp [binOp, h]
theorem nD_eqN (w : World) (f : Fn) (a c : Array Value) : (binOp .eql 44 .nilFunc .nilFunc).run Try.prog w = .ok (.bool true) w := by
  have hu : Try.prog.underlying 44 = some (.func #[26, 26] #[26, 27] false) := by kernel_rfl
  have h : (Op.equal 44 .nilFunc .nilFunc).run Try.prog w = .ok true w := by
    show (Op.equalIn (9999 + 1) 44 .nilFunc .nilFunc).run Try.prog w = .ok true w
    rw [Op.equalIn]
    simp [Sem.run_bind, run_underlying hu, Result.andThen]
  simp [binOp, h]
theorem nD_neF (w : World) (f : Fn) (a c : Array Value) : (binOp .neq 44 (.func f a c) .nilFunc).run Try.prog w = .ok (.bool true) w := by
  have hu : Try.prog.underlying 44 = some (.func #[26, 26] #[26, 27] false) := by kernel_rfl
  have h : (Op.equal 44 (.func f a c) .nilFunc).run Try.prog w = .ok false w := by
    show (Op.equalIn (9999 + 1) 44 (.func f a c) .nilFunc).run Try.prog w = .ok false w
    rw [Op.equalIn]
    simp [Sem.run_bind, run_underlying hu, Result.andThen]
  simp [binOp, h]
theorem nD_neN (w : World) (f : Fn) (a c : Array Value) : (binOp .neq 44 .nilFunc .nilFunc).run Try.prog w = .ok (.bool false) w := by
  have hu : Try.prog.underlying 44 = some (.func #[26, 26] #[26, 27] false) := by kernel_rfl
  have h : (Op.equal 44 .nilFunc .nilFunc).run Try.prog w = .ok true w := by
    show (Op.equalIn (9999 + 1) 44 .nilFunc .nilFunc).run Try.prog w = .ok true w
    rw [Op.equalIn]
    simp [Sem.run_bind, run_underlying hu, Result.andThen]
  simp [binOp, h]

set_option maxHeartbeats 2000000 in
theorem dyadZ_22 (xso xo so ao : Option Addr) (xsn xsc xn xc sn sc an ac : Nat) (sx ax sy ay : List Int) (Φ : List Int → List Int → Prop) (E : Int) (w : World) (hsx : Rd w xso xsn sx) (hax : Rd w xo xn ax) (hsy : Rd w so sn sy) (hay : Rd w ao an ay) (mx : mayA sx ax = 0) (my : mayA sy ay = 0) (rx : xsn ≤ 1) (ry : sn ≤ 8)
    (hc : ∀ V, Below w.heap.size w V → Calls Try.prog 24 #[.agg #[.slice xso xsn xsc, .slice xo xn xc], .agg #[.slice so sn sc, .slice ao an ac]] V fun e w' => AnsQ V Φ E e w') :
    Calls Try.prog 12 #[.int .i64 22, .agg #[.slice xso xsn xsc, .slice xo xn xc], .agg #[.slice so sn sc, .slice ao an ac]] w fun e w' => AnsQ w Φ E e w' := by
  have D0 := du_startQ w xso xsn xsc xo xn xc so sn sc ao an ac
  have s0 := D0.sz
  have cM1 := mayA_any xso xo xsn xsc xn xc sx ax _ (hsx.below D0.bel (Nat.le_refl _)) (hax.below D0.bel (Nat.le_refl _))
  have cM2 := fun V (D : DuQ w V xso xsn xsc xo xn xc so sn sc ao an ac) => mayA_any so ao sn sc an ac sy ay V (hsy.below D.bel (Nat.le_refl _)) (hay.below D.bel (Nat.le_refl _))
  rw [mx] at cM1
  rw [my] at cM2
  have cD := fun V => rowOf_22 V
  obtain ⟨x0, x1, _, _⟩ := box2 D0.x
  obtain ⟨x2, x3, _, _⟩ := box2 D0.y
  clear mx my
  have t1 : decide (1 < xsn) = false := by simp; omega
  have t1b : ¬ (1 : Int) < (xsn : Int) := by omega
  have t2 : decide (8 < sn) = false := by simp; omega
  have t2b : ¬ (8 : Int) < (sn : Int) := by omega
  have hnil := fun V => nD_eqF V (.func 24) #[] #[]
  go_enter Try.func12, Try.ntmps12
  go_wp2_with (first
    | (go_at_call 17; (with_reducible refine cM1.mono ?_); rintro e w1 ⟨rfl, k1⟩; have D1 := D0.below k1 s0; have s1 := D1.sz; obtain ⟨y0, y1, _, _⟩ := box2 D1.x; obtain ⟨y2, y3, _, _⟩ := box2 D1.y)
    | (go_at_call 17; (with_reducible refine (cM2 w1 D1).mono ?_); rintro e w2 ⟨rfl, k2⟩; have D2 := D1.below k2 s1; have s2 := D2.sz)
    | (go_at_call 18; (with_reducible refine (cD w2).mono ?_); rintro e w3 ⟨rfl, k3⟩; have D3 := D2.below k3 s2; have s3 := D3.sz; have D4 := D3.below (box_below w3 (.cells #[.int .i64 22, .int .i64 0, .nilFunc, .int .i64 8, .func (.func 24) #[] #[]] 46)) s3; obtain ⟨v0, v1, _, _⟩ := box2 D4.x; obtain ⟨v2, v3, _, _⟩ := box2 D4.y)
    | (go_at_call 24; (with_reducible refine (hc _ D4.bel).mono ?_); rintro e w5 ⟨o1, n1, c1, o2, n2, c2, S, A, rfl, f1, f2, hΦ, k5⟩; have s4 := D4.sz; have D5 := D4.below k5 s4; obtain ⟨z0, z1, z2, z3⟩ := box2 D5.r))
  (try simp only [Exit.inBlock, Exit.then])
  refine bodyPost_ret (v := .tuple #[.agg #[.slice o1 n1 c1, .slice o2 n2 c2], .int .i64 E]) (by rw [results_cell_tmp rfl]; go_simp) rfl ?_
  exact ⟨o1, n1, c1, o2, n2, c2, S, A, rfl, (ft_setQ f1 (by omega) _ _).mono (by omega), (ft_setQ f2 (by omega) _ _).mono (by omega), hΦ, below_set2 _ _ _ _ D5.bel (by omega) (Nat.le_refl _)⟩

set_option maxHeartbeats 2000000 in
theorem dyadZ_39 (xso xo so ao : Option Addr) (xsn xsc xn xc sn sc an ac : Nat) (sx ax sy ay : List Int) (Φ : List Int → List Int → Prop) (E : Int) (w : World) (hsx : Rd w xso xsn sx) (hax : Rd w xo xn ax) (hsy : Rd w so sn sy) (hay : Rd w ao an ay) (mx : mayA sx ax = 0) (my : mayA sy ay = 0) (rx : xsn ≤ 1) (ry : sn ≤ 1)
    (hc : ∀ V, Below w.heap.size w V → Calls Try.prog 26 #[.agg #[.slice xso xsn xsc, .slice xo xn xc], .agg #[.slice so sn sc, .slice ao an ac]] V fun e w' => AnsQ V Φ E e w') :
    Calls Try.prog 12 #[.int .i64 39, .agg #[.slice xso xsn xsc, .slice xo xn xc], .agg #[.slice so sn sc, .slice ao an ac]] w fun e w' => AnsQ w Φ E e w' := by
  have D0 := du_startQ w xso xsn xsc xo xn xc so sn sc ao an ac
  have s0 := D0.sz
  have cM1 := mayA_any xso xo xsn xsc xn xc sx ax _ (hsx.below D0.bel (Nat.le_refl _)) (hax.below D0.bel (Nat.le_refl _))
  have cM2 := fun V (D : DuQ w V xso xsn xsc xo xn xc so sn sc ao an ac) => mayA_any so ao sn sc an ac sy ay V (hsy.below D.bel (Nat.le_refl _)) (hay.below D.bel (Nat.le_refl _))
  rw [mx] at cM1
  rw [my] at cM2
  have cD := fun V => rowOf_39 V
  obtain ⟨x0, x1, _, _⟩ := box2 D0.x
  obtain ⟨x2, x3, _, _⟩ := box2 D0.y
  clear mx my
  have t1 : decide (1 < xsn) = false := by simp; omega
  have t1b : ¬ (1 : Int) < (xsn : Int) := by omega
  have t2 : decide (1 < sn) = false := by simp; omega
  have t2b : ¬ (1 : Int) < (sn : Int) := by omega
  have hnil := fun V => nD_eqF V (.func 26) #[] #[]
  go_enter Try.func12, Try.ntmps12
  go_wp2_with (first
    | (go_at_call 17; (with_reducible refine cM1.mono ?_); rintro e w1 ⟨rfl, k1⟩; have D1 := D0.below k1 s0; have s1 := D1.sz; obtain ⟨y0, y1, _, _⟩ := box2 D1.x; obtain ⟨y2, y3, _, _⟩ := box2 D1.y)
    | (go_at_call 17; (with_reducible refine (cM2 w1 D1).mono ?_); rintro e w2 ⟨rfl, k2⟩; have D2 := D1.below k2 s1; have s2 := D2.sz)
    | (go_at_call 18; (with_reducible refine (cD w2).mono ?_); rintro e w3 ⟨rfl, k3⟩; have D3 := D2.below k3 s2; have s3 := D3.sz; have D4 := D3.below (box_below w3 (.cells #[.int .i64 39, .int .i64 1, .func (.func 25) #[] #[], .int .i64 1, .func (.func 26) #[] #[]] 46)) s3; obtain ⟨v0, v1, _, _⟩ := box2 D4.x; obtain ⟨v2, v3, _, _⟩ := box2 D4.y)
    | (go_at_call 26; (with_reducible refine (hc _ D4.bel).mono ?_); rintro e w5 ⟨o1, n1, c1, o2, n2, c2, S, A, rfl, f1, f2, hΦ, k5⟩; have s4 := D4.sz; have D5 := D4.below k5 s4; obtain ⟨z0, z1, z2, z3⟩ := box2 D5.r))
  (try simp only [Exit.inBlock, Exit.then])
  refine bodyPost_ret (v := .tuple #[.agg #[.slice o1 n1 c1, .slice o2 n2 c2], .int .i64 E]) (by rw [results_cell_tmp rfl]; go_simp) rfl ?_
  exact ⟨o1, n1, c1, o2, n2, c2, S, A, rfl, (ft_setQ f1 (by omega) _ _).mono (by omega), (ft_setQ f2 (by omega) _ _).mono (by omega), hΦ, below_set2 _ _ _ _ D5.bel (by omega) (Nat.le_refl _)⟩

set_option maxHeartbeats 2000000 in
theorem dyadZ_40 (xso xo so ao : Option Addr) (xsn xsc xn xc sn sc an ac : Nat) (sx ax sy ay : List Int) (Φ : List Int → List Int → Prop) (E : Int) (w : World) (hsx : Rd w xso xsn sx) (hax : Rd w xo xn ax) (hsy : Rd w so sn sy) (hay : Rd w ao an ay) (mx : mayA sx ax = 0) (my : mayA sy ay = 0) (rx : xsn ≤ 1) (ry : sn ≤ 0)
    (hc : ∀ V, Below w.heap.size w V → Calls Try.prog 28 #[.agg #[.slice xso xsn xsc, .slice xo xn xc], .agg #[.slice so sn sc, .slice ao an ac]] V fun e w' => AnsQ V Φ E e w') :
    Calls Try.prog 12 #[.int .i64 40, .agg #[.slice xso xsn xsc, .slice xo xn xc], .agg #[.slice so sn sc, .slice ao an ac]] w fun e w' => AnsQ w Φ E e w' := by
  have D0 := du_startQ w xso xsn xsc xo xn xc so sn sc ao an ac
  have s0 := D0.sz
  have cM1 := mayA_any xso xo xsn xsc xn xc sx ax _ (hsx.below D0.bel (Nat.le_refl _)) (hax.below D0.bel (Nat.le_refl _))
  have cM2 := fun V (D : DuQ w V xso xsn xsc xo xn xc so sn sc ao an ac) => mayA_any so ao sn sc an ac sy ay V (hsy.below D.bel (Nat.le_refl _)) (hay.below D.bel (Nat.le_refl _))
  rw [mx] at cM1
  rw [my] at cM2
  have cD := fun V => rowOf_40 V
  obtain ⟨x0, x1, _, _⟩ := box2 D0.x
  obtain ⟨x2, x3, _, _⟩ := box2 D0.y
  clear mx my
  have t1 : decide (1 < xsn) = false := by simp; omega
  have t1b : ¬ (1 : Int) < (xsn : Int) := by omega
  have t2 : decide (0 < sn) = false := by simp; omega
  have t2b : ¬ (0 : Int) < (sn : Int) := by omega
  have hnil := fun V => nD_eqF V (.func 28) #[] #[]
  go_enter Try.func12, Try.ntmps12
  go_wp2_with (first
    | (go_at_call 17; (with_reducible refine cM1.mono ?_); rintro e w1 ⟨rfl, k1⟩; have D1 := D0.below k1 s0; have s1 := D1.sz; obtain ⟨y0, y1, _, _⟩ := box2 D1.x; obtain ⟨y2, y3, _, _⟩ := box2 D1.y)
    | (go_at_call 17; (with_reducible refine (cM2 w1 D1).mono ?_); rintro e w2 ⟨rfl, k2⟩; have D2 := D1.below k2 s1; have s2 := D2.sz)
    | (go_at_call 18; (with_reducible refine (cD w2).mono ?_); rintro e w3 ⟨rfl, k3⟩; have D3 := D2.below k3 s2; have s3 := D3.sz; have D4 := D3.below (box_below w3 (.cells #[.int .i64 40, .int .i64 8, .func (.func 27) #[] #[], .int .i64 0, .func (.func 28) #[] #[]] 46)) s3; obtain ⟨v0, v1, _, _⟩ := box2 D4.x; obtain ⟨v2, v3, _, _⟩ := box2 D4.y)
    | (go_at_call 28; (with_reducible refine (hc _ D4.bel).mono ?_); rintro e w5 ⟨o1, n1, c1, o2, n2, c2, S, A, rfl, f1, f2, hΦ, k5⟩; have s4 := D4.sz; have D5 := D4.below k5 s4; obtain ⟨z0, z1, z2, z3⟩ := box2 D5.r))
  (try simp only [Exit.inBlock, Exit.then])
  refine bodyPost_ret (v := .tuple #[.agg #[.slice o1 n1 c1, .slice o2 n2 c2], .int .i64 E]) (by rw [results_cell_tmp rfl]; go_simp) rfl ?_
  exact ⟨o1, n1, c1, o2, n2, c2, S, A, rfl, (ft_setQ f1 (by omega) _ _).mono (by omega), (ft_setQ f2 (by omega) _ _).mono (by omega), hΦ, below_set2 _ _ _ _ D5.bel (by omega) (Nat.le_refl _)⟩

set_option maxHeartbeats 2000000 in
theorem monadZ_34 (so ao : Option Addr) (sn sc an ac : Nat) (sy ay : List Int) (Φ : List Int → List Int → Prop) (E : Int) (w : World) (hsy : Rd w so sn sy) (hay : Rd w ao an ay) (my : mayA sy ay = 0) (ry : sn ≤ 1)
    (hc : ∀ V, Below w.heap.size w V → Calls Try.prog 22 #[.agg #[.slice so sn sc, .slice ao an ac]] V fun e w' => AnsQ V Φ E e w') :
    Calls Try.prog 8 #[.int .i64 34, .agg #[.slice so sn sc, .slice ao an ac]] w fun e w' => AnsQ w Φ E e w' := by
  have U0 := un_startQ w so sn sc ao an ac
  have s0 := U0.sz
  have cM1 := mayA_any so ao sn sc an ac sy ay _ (hsy.below U0.bel (Nat.le_refl _)) (hay.below U0.bel (Nat.le_refl _))
  rw [my] at cM1
  have cD := fun V => rowOf_34 V
  obtain ⟨x0, x1, _, _⟩ := box2 U0.x
  clear my
  have t2 : decide (1 < sn) = false := by simp; omega
  have t2b : ¬ (1 : Int) < (sn : Int) := by omega
  have hnil := fun V => nM_eqF V (.func 22) #[] #[]
  go_enter Try.func8, Try.ntmps8
  go_wp2_with (first
    | (go_at_call 17; (with_reducible refine cM1.mono ?_); rintro e w1 ⟨rfl, k1⟩; have U1 := U0.below k1 s0; have s1 := U1.sz)
    | (go_at_call 18; (with_reducible refine (cD w1).mono ?_); rintro e w3 ⟨rfl, k3⟩; have U3 := U1.below k3 s1; have s3 := U3.sz; have U4 := U3.below (box_below w3 (.cells #[.int .i64 34, .int .i64 1, .func (.func 22) #[] #[], .int .i64 0, .nilFunc] 46)) s3; obtain ⟨v0, v1, _, _⟩ := box2 U4.x)
    | (go_at_call 22; (with_reducible refine (hc _ U4.bel).mono ?_); rintro e w5 ⟨o1, n1, c1, o2, n2, c2, S, A, rfl, f1, f2, hΦ, k5⟩; have s4 := U4.sz; have U5 := U4.below k5 s4; obtain ⟨z0, z1, z2, z3⟩ := box2 U5.r))
  (try simp only [Exit.inBlock, Exit.then])
  refine bodyPost_ret (v := .tuple #[.agg #[.slice o1 n1 c1, .slice o2 n2 c2], .int .i64 E]) (by rw [results_cell_tmp rfl]; go_simp) rfl ?_
  exact ⟨o1, n1, c1, o2, n2, c2, S, A, rfl, (ft_setQ f1 (by omega) _ _).mono (by omega), (ft_setQ f2 (by omega) _ _).mono (by omega), hΦ, below_set2 _ _ _ _ U5.bel (by omega) (Nat.le_refl _)⟩

set_option maxHeartbeats 2000000 in
theorem monadZ_43 (so ao : Option Addr) (sn sc an ac : Nat) (sy ay : List Int) (Φ : List Int → List Int → Prop) (E : Int) (w : World) (hsy : Rd w so sn sy) (hay : Rd w ao an ay) (my : mayA sy ay = 0) (ry : sn ≤ 1)
    (hc : ∀ V, Below w.heap.size w V → Calls Try.prog 23 #[.agg #[.slice so sn sc, .slice ao an ac]] V fun e w' => AnsQ V Φ E e w') :
    Calls Try.prog 8 #[.int .i64 43, .agg #[.slice so sn sc, .slice ao an ac]] w fun e w' => AnsQ w Φ E e w' := by
  have U0 := un_startQ w so sn sc ao an ac
  have s0 := U0.sz
  have cM1 := mayA_any so ao sn sc an ac sy ay _ (hsy.below U0.bel (Nat.le_refl _)) (hay.below U0.bel (Nat.le_refl _))
  rw [my] at cM1
  have cD := fun V => rowOf_43 V
  obtain ⟨x0, x1, _, _⟩ := box2 U0.x
  clear my
  have t2 : decide (1 < sn) = false := by simp; omega
  have t2b : ¬ (1 : Int) < (sn : Int) := by omega
  have hnil := fun V => nM_eqF V (.func 23) #[] #[]
  go_enter Try.func8, Try.ntmps8
  go_wp2_with (first
    | (go_at_call 17; (with_reducible refine cM1.mono ?_); rintro e w1 ⟨rfl, k1⟩; have U1 := U0.below k1 s0; have s1 := U1.sz)
    | (go_at_call 18; (with_reducible refine (cD w1).mono ?_); rintro e w3 ⟨rfl, k3⟩; have U3 := U1.below k3 s1; have s3 := U3.sz; have U4 := U3.below (box_below w3 (.cells #[.int .i64 43, .int .i64 1, .func (.func 23) #[] #[], .int .i64 0, .nilFunc] 46)) s3; obtain ⟨v0, v1, _, _⟩ := box2 U4.x)
    | (go_at_call 23; (with_reducible refine (hc _ U4.bel).mono ?_); rintro e w5 ⟨o1, n1, c1, o2, n2, c2, S, A, rfl, f1, f2, hΦ, k5⟩; have s4 := U4.sz; have U5 := U4.below k5 s4; obtain ⟨z0, z1, z2, z3⟩ := box2 U5.r))
  (try simp only [Exit.inBlock, Exit.then])
  refine bodyPost_ret (v := .tuple #[.agg #[.slice o1 n1 c1, .slice o2 n2 c2], .int .i64 E]) (by rw [results_cell_tmp rfl]; go_simp) rfl ?_
  exact ⟨o1, n1, c1, o2, n2, c2, S, A, rfl, (ft_setQ f1 (by omega) _ _).mono (by omega), (ft_setQ f2 (by omega) _ _).mono (by omega), hΦ, below_set2 _ _ _ _ U5.bel (by omega) (Nat.le_refl _)⟩

set_option maxHeartbeats 2000000 in
theorem monadZ_39 (so ao : Option Addr) (sn sc an ac : Nat) (sy ay : List Int) (Φ : List Int → List Int → Prop) (E : Int) (w : World) (hsy : Rd w so sn sy) (hay : Rd w ao an ay) (my : mayA sy ay = 0) (ry : sn ≤ 1)
    (hc : ∀ V, Below w.heap.size w V → Calls Try.prog 25 #[.agg #[.slice so sn sc, .slice ao an ac]] V fun e w' => AnsQ V Φ E e w') :
    Calls Try.prog 8 #[.int .i64 39, .agg #[.slice so sn sc, .slice ao an ac]] w fun e w' => AnsQ w Φ E e w' := by
  have U0 := un_startQ w so sn sc ao an ac
  have s0 := U0.sz
  have cM1 := mayA_any so ao sn sc an ac sy ay _ (hsy.below U0.bel (Nat.le_refl _)) (hay.below U0.bel (Nat.le_refl _))
  rw [my] at cM1
  have cD := fun V => rowOf_39 V
  obtain ⟨x0, x1, _, _⟩ := box2 U0.x
  clear my
  have t2 : decide (1 < sn) = false := by simp; omega
  have t2b : ¬ (1 : Int) < (sn : Int) := by omega
  have hnil := fun V => nM_eqF V (.func 25) #[] #[]
  go_enter Try.func8, Try.ntmps8
  go_wp2_with (first
    | (go_at_call 17; (with_reducible refine cM1.mono ?_); rintro e w1 ⟨rfl, k1⟩; have U1 := U0.below k1 s0; have s1 := U1.sz)
    | (go_at_call 18; (with_reducible refine (cD w1).mono ?_); rintro e w3 ⟨rfl, k3⟩; have U3 := U1.below k3 s1; have s3 := U3.sz; have U4 := U3.below (box_below w3 (.cells #[.int .i64 39, .int .i64 1, .func (.func 25) #[] #[], .int .i64 1, .func (.func 26) #[] #[]] 46)) s3; obtain ⟨v0, v1, _, _⟩ := box2 U4.x)
    | (go_at_call 25; (with_reducible refine (hc _ U4.bel).mono ?_); rintro e w5 ⟨o1, n1, c1, o2, n2, c2, S, A, rfl, f1, f2, hΦ, k5⟩; have s4 := U4.sz; have U5 := U4.below k5 s4; obtain ⟨z0, z1, z2, z3⟩ := box2 U5.r))
  (try simp only [Exit.inBlock, Exit.then])
  refine bodyPost_ret (v := .tuple #[.agg #[.slice o1 n1 c1, .slice o2 n2 c2], .int .i64 E]) (by rw [results_cell_tmp rfl]; go_simp) rfl ?_
  exact ⟨o1, n1, c1, o2, n2, c2, S, A, rfl, (ft_setQ f1 (by omega) _ _).mono (by omega), (ft_setQ f2 (by omega) _ _).mono (by omega), hΦ, below_set2 _ _ _ _ U5.bel (by omega) (Nat.le_refl _)⟩

set_option maxHeartbeats 2000000 in
theorem monadZ_40 (so ao : Option Addr) (sn sc an ac : Nat) (sy ay : List Int) (Φ : List Int → List Int → Prop) (E : Int) (w : World) (hsy : Rd w so sn sy) (hay : Rd w ao an ay) (my : mayA sy ay = 0) (ry : sn ≤ 8)
    (hc : ∀ V, Below w.heap.size w V → Calls Try.prog 27 #[.agg #[.slice so sn sc, .slice ao an ac]] V fun e w' => AnsQ V Φ E e w') :
    Calls Try.prog 8 #[.int .i64 40, .agg #[.slice so sn sc, .slice ao an ac]] w fun e w' => AnsQ w Φ E e w' := by
  have U0 := un_startQ w so sn sc ao an ac
  have s0 := U0.sz
  have cM1 := mayA_any so ao sn sc an ac sy ay _ (hsy.below U0.bel (Nat.le_refl _)) (hay.below U0.bel (Nat.le_refl _))
  rw [my] at cM1
  have cD := fun V => rowOf_40 V
  obtain ⟨x0, x1, _, _⟩ := box2 U0.x
  clear my
  have t2 : decide (8 < sn) = false := by simp; omega
  have t2b : ¬ (8 : Int) < (sn : Int) := by omega
  have hnil := fun V => nM_eqF V (.func 27) #[] #[]
  go_enter Try.func8, Try.ntmps8
  go_wp2_with (first
    | (go_at_call 17; (with_reducible refine cM1.mono ?_); rintro e w1 ⟨rfl, k1⟩; have U1 := U0.below k1 s0; have s1 := U1.sz)
    | (go_at_call 18; (with_reducible refine (cD w1).mono ?_); rintro e w3 ⟨rfl, k3⟩; have U3 := U1.below k3 s1; have s3 := U3.sz; have U4 := U3.below (box_below w3 (.cells #[.int .i64 40, .int .i64 8, .func (.func 27) #[] #[], .int .i64 0, .func (.func 28) #[] #[]] 46)) s3; obtain ⟨v0, v1, _, _⟩ := box2 U4.x)
    | (go_at_call 27; (with_reducible refine (hc _ U4.bel).mono ?_); rintro e w5 ⟨o1, n1, c1, o2, n2, c2, S, A, rfl, f1, f2, hΦ, k5⟩; have s4 := U4.sz; have U5 := U4.below k5 s4; obtain ⟨z0, z1, z2, z3⟩ := box2 U5.r))
  (try simp only [Exit.inBlock, Exit.then])
  refine bodyPost_ret (v := .tuple #[.agg #[.slice o1 n1 c1, .slice o2 n2 c2], .int .i64 E]) (by rw [results_cell_tmp rfl]; go_simp) rfl ?_
  exact ⟨o1, n1, c1, o2, n2, c2, S, A, rfl, (ft_setQ f1 (by omega) _ _).mono (by omega), (ft_setQ f2 (by omega) _ _).mono (by omega), hΦ, below_set2 _ _ _ _ U5.bel (by omega) (Nat.le_refl _)⟩

set_option maxHeartbeats 1000000 in
/-- Arrays that may not be are refused, whatever the op. -/
theorem monadZ_bad (op : Int) (so ao : Option Addr) (sn sc an ac : Nat) (sy ay : List Int) (w : World) (hsy : Rd w so sn sy) (hay : Rd w ao an ay) (my : mayA sy ay ≠ 0) :
    Calls Try.prog 8 #[.int .i64 op, .agg #[.slice so sn sc, .slice ao an ac]] w fun e w' => AnsQ w (fun S A => S = [] ∧ A = []) 1 e w' := by
  have U0 := un_startQ w so sn sc ao an ac
  have s0 := U0.sz
  have cM1 := mayA_any so ao sn sc an ac sy ay _ (hsy.below U0.bel (Nat.le_refl _)) (hay.below U0.bel (Nat.le_refl _))
  obtain ⟨x0, x1, _, _⟩ := box2 U0.x
  generalize mayA sy ay = M at *
  have t1 : (M != 0) = true := by simpa using my
  clear my
  go_enter Try.func8, Try.ntmps8
  go_wp2_with (first
    | (go_at_call 17; (with_reducible refine cM1.mono ?_); rintro e w1 ⟨rfl, k1⟩; have U1 := U0.below k1 s0; obtain ⟨r0, r1, r2, r3⟩ := box2 U1.r))
  (try simp only [Exit.inBlock, Exit.then])
  refine bodyPost_ret (v := .tuple #[.agg #[.slice none 0 0, .slice none 0 0], .int .i64 1]) (by rw [results_cell_tmp rfl]; go_simp) rfl ?_
  exact ret0 rfl (below_set2 _ _ _ _ U1.bel (by omega) (Nat.le_refl _))
set_option maxHeartbeats 1000000 in
theorem monadZ_22 (so ao : Option Addr) (sn sc an ac : Nat) (sy ay : List Int) (w : World) (hsy : Rd w so sn sy) (hay : Rd w ao an ay) (my : mayA sy ay = 0) :
    Calls Try.prog 8 #[.int .i64 22, .agg #[.slice so sn sc, .slice ao an ac]] w fun e w' => AnsQ w (fun S A => S = [] ∧ A = []) 16 e w' := by
  have U0 := un_startQ w so sn sc ao an ac
  have s0 := U0.sz
  have cM1 := mayA_any so ao sn sc an ac sy ay _ (hsy.below U0.bel (Nat.le_refl _)) (hay.below U0.bel (Nat.le_refl _))
  rw [my] at cM1
  have cD := fun V => rowOf_22 V
  obtain ⟨x0, x1, _, _⟩ := box2 U0.x
  clear my
  have hnil := fun V => nM_eqN V (.func 24) #[] #[]
  go_enter Try.func8, Try.ntmps8
  go_wp2_with (first
    | (go_at_call 17; (with_reducible refine cM1.mono ?_); rintro e w1 ⟨rfl, k1⟩; have U1 := U0.below k1 s0; have s1 := U1.sz)
    | (go_at_call 18; (with_reducible refine (cD w1).mono ?_); rintro e w3 ⟨rfl, k3⟩; have U3 := U1.below k3 s1; have s3 := U3.sz; have U4 := U3.below (box_below w3 (.cells #[.int .i64 22, .int .i64 0, .nilFunc, .int .i64 8, .func (.func 24) #[] #[]] 46)) s3; obtain ⟨z0, z1, z2, z3⟩ := box2 U4.r))
  (try simp only [Exit.inBlock, Exit.then])
  refine bodyPost_ret (v := .tuple #[.agg #[.slice none 0 0, .slice none 0 0], .int .i64 16]) (by rw [results_cell_tmp rfl]; go_simp) rfl ?_
  exact ret0 rfl (below_set2 _ _ _ _ U4.bel (by omega) (Nat.le_refl _))
theorem hasZ_39_2 (w : World) : Calls Try.prog 15 #[.int .i64 39, .int .i64 2] w fun e w' => e = .returned (.bool true) ∧ Below w.heap.size w w' := by
  have cD := fun V => rowOf_39 V
  have hn1 := fun V => nM_neF V (.func 25) #[] #[]
  have hn2 := fun V => nD_neF V (.func 26) #[] #[]
  go_enter Try.func15, Try.ntmps15
  go_wp2_with (go_at_call 18; (with_reducible refine (cD _).mono ?_); rintro e w3 ⟨rfl, k3⟩)
  go_ret
  exact ⟨rfl, k3.trans ((box_below w3 _).mono k3.size)⟩
end Go.Proofs.Ytjnlkdeiccllgaa
