
/- Package seek: what is refused, with its error; Has at any op. -/

import Derived.Test.YtmepcenbaohcoaaGreatRSf

namespace Go.Proofs.YtmepcenbaohcoaaGreat

open Go.RowKit

set_option linter.unusedVariables false

theorem ansQ_nilE {w w' : World} {E : Int} (k : Below w.heap.size w w') : AnsQ w (fun S A => S = [] ∧ A = []) E (.returned (.tuple #[.agg #[.slice none 0 0, .slice none 0 0], .int .i64 E])) w' := ⟨none, 0, 0, none, 0, 0, [], [], rfl, Ft.nil _ _ _, Ft.nil _ _ _, ⟨rfl, rfl⟩, k⟩
theorem monadS_noneE (op : Int) (hop : ∀ j, j < 10 → (sOp j == op) = false) (so ao : Option Addr) (sn sc an ac : Nat) (sy ay : List Int) (w : World) (hsy : Rd w so sn sy) (hay : Rd w ao an ay) (my : mayA sy ay = 0) :
    Calls Tryz.prog 12 #[.int .i64 op, .agg #[.slice so sn sc, .slice ao an ac]] w fun e w' => AnsQ w (fun S A => S = [] ∧ A = []) 1 e w' := by
  have U0 := un_startQ w so sn sc ao an ac
  have s0 := U0.sz
  have cM1 := mayA_any so ao sn sc an ac sy ay _ (hsy.below U0.bel (Nat.le_refl _)) (hay.below U0.bel (Nat.le_refl _))
  rw [my] at cM1
  have cD := fun V => rowOf_no op hop V
  obtain ⟨x0, x1, _, _⟩ := box2 U0.x
  clear my
  go_enter Tryz.func12, Tryz.ntmps12
  go_wp2_with (first
    | (go_at_call 20; (with_reducible refine cM1.mono ?_); rintro e w1 ⟨rfl, k1⟩; have U1 := U0.below k1 s0; have s1 := U1.sz)
    | (go_at_call 15; (with_reducible refine (cD w1).mono ?_); rintro e w3 ⟨rfl, k3⟩; have U3 := U1.below k3 s1; have s3 := U3.sz; have U4 := U3.below (box_below w3 (.cells #[.int .i64 0, .nilFunc, .nilFunc] 47)) s3; have s4 := U4.sz; obtain ⟨v0, v1, _, _⟩ := box2 U4.x; obtain ⟨z0, z1, z2, z3⟩ := box2 U4.r))
  (try simp only [Exit.inBlock, Exit.then])
  refine bodyPost_ret (v := .tuple #[.agg #[.slice none 0 0, .slice none 0 0], .int .i64 1]) (by rw [results_cell_tmp rfl]; go_simp) rfl ?_
  exact ansQ_nilE (below_set2 _ _ _ _ U4.bel (by omega) (Nat.le_refl _))
theorem dyadS_noneE (op : Int) (hop : ∀ j, j < 10 → (sOp j == op) = false) (xso xo so ao : Option Addr) (xsn xsc xn xc sn sc an ac : Nat) (sx ax sy ay : List Int) (w : World) (hsx : Rd w xso xsn sx) (hax : Rd w xo xn ax) (hsy : Rd w so sn sy) (hay : Rd w ao an ay) (mx : mayA sx ax = 0) (my : mayA sy ay = 0) :
    Calls Tryz.prog 14 #[.int .i64 op, .agg #[.slice xso xsn xsc, .slice xo xn xc], .agg #[.slice so sn sc, .slice ao an ac]] w fun e w' => AnsQ w (fun S A => S = [] ∧ A = []) 1 e w' := by
  have D0 := du_startQ w xso xsn xsc xo xn xc so sn sc ao an ac
  have s0 := D0.sz
  have cM1 := mayA_any xso xo xsn xsc xn xc sx ax _ (hsx.below D0.bel (Nat.le_refl _)) (hax.below D0.bel (Nat.le_refl _))
  have cM2 := fun V (D : DuQ w V xso xsn xsc xo xn xc so sn sc ao an ac) => mayA_any so ao sn sc an ac sy ay V (hsy.below D.bel (Nat.le_refl _)) (hay.below D.bel (Nat.le_refl _))
  rw [mx] at cM1
  rw [my] at cM2
  have cD := fun V => rowOf_no op hop V
  obtain ⟨x0, x1, _, _⟩ := box2 D0.x
  obtain ⟨x2, x3, _, _⟩ := box2 D0.y
  clear mx my
  go_enter Tryz.func14, Tryz.ntmps14
  go_wp2_with (first
    | (go_at_call 20; (with_reducible refine cM1.mono ?_); rintro e w1 ⟨rfl, k1⟩; have D1 := D0.below k1 s0; have s1 := D1.sz; obtain ⟨y0, y1, _, _⟩ := box2 D1.x; obtain ⟨y2, y3, _, _⟩ := box2 D1.y)
    | (go_at_call 20; (with_reducible refine (cM2 w1 D1).mono ?_); rintro e w2 ⟨rfl, k2⟩; have D2 := D1.below k2 s1; have s2 := D2.sz)
    | (go_at_call 15; (with_reducible refine (cD w2).mono ?_); rintro e w3 ⟨rfl, k3⟩; have D3 := D2.below k3 s2; have s3 := D3.sz; have D4 := D3.below (box_below w3 (.cells #[.int .i64 0, .nilFunc, .nilFunc] 47)) s3; have s4 := D4.sz; obtain ⟨v0, v1, _, _⟩ := box2 D4.x; obtain ⟨z0, z1, z2, z3⟩ := box2 D4.r))
  (try simp only [Exit.inBlock, Exit.then])
  refine bodyPost_ret (v := .tuple #[.agg #[.slice none 0 0, .slice none 0 0], .int .i64 1]) (by rw [results_cell_tmp rfl]; go_simp) rfl ?_
  exact ansQ_nilE (below_set2 _ _ _ _ D4.bel (by omega) (Nat.le_refl _))
theorem monadS_l27E (so ao : Option Addr) (sn sc an ac : Nat) (sy ay : List Int) (w : World) (hsy : Rd w so sn sy) (hay : Rd w ao an ay) (my : mayA sy ay = 0) :
    Calls Tryz.prog 12 #[.int .i64 27, .agg #[.slice so sn sc, .slice ao an ac]] w fun e w' => AnsQ w (fun S A => S = [] ∧ A = []) 16 e w' := by
  have U0 := un_startQ w so sn sc ao an ac
  have s0 := U0.sz
  have cM1 := mayA_any so ao sn sc an ac sy ay _ (hsy.below U0.bel (Nat.le_refl _)) (hay.below U0.bel (Nat.le_refl _))
  rw [my] at cM1
  have cD := fun V => rowOf_27 V
  obtain ⟨x0, x1, _, _⟩ := box2 U0.x
  clear my
  have hnil := fun V => nM_eqN V (.func 0) #[] #[]
  go_enter Tryz.func12, Tryz.ntmps12
  go_wp2_with (first
    | (go_at_call 20; (with_reducible refine cM1.mono ?_); rintro e w1 ⟨rfl, k1⟩; have U1 := U0.below k1 s0; have s1 := U1.sz)
    | (go_at_call 15; (with_reducible refine (cD w1).mono ?_); rintro e w3 ⟨rfl, k3⟩; have U3 := U1.below k3 s1; have s3 := U3.sz; have U4 := U3.below (box_below w3 (.cells #[.int .i64 27, .nilFunc, .func (.func 38) #[] #[]] 47)) s3; have s4 := U4.sz; obtain ⟨v0, v1, _, _⟩ := box2 U4.x; obtain ⟨z0, z1, z2, z3⟩ := box2 U4.r))
  (try simp only [Exit.inBlock, Exit.then])
  refine bodyPost_ret (v := .tuple #[.agg #[.slice none 0 0, .slice none 0 0], .int .i64 16]) (by rw [results_cell_tmp rfl]; go_simp) rfl ?_
  exact ansQ_nilE (below_set2 _ _ _ _ U4.bel (by omega) (Nat.le_refl _))
theorem monadS_l34E (so ao : Option Addr) (sn sc an ac : Nat) (sy ay : List Int) (w : World) (hsy : Rd w so sn sy) (hay : Rd w ao an ay) (my : mayA sy ay = 0) :
    Calls Tryz.prog 12 #[.int .i64 34, .agg #[.slice so sn sc, .slice ao an ac]] w fun e w' => AnsQ w (fun S A => S = [] ∧ A = []) 16 e w' := by
  have U0 := un_startQ w so sn sc ao an ac
  have s0 := U0.sz
  have cM1 := mayA_any so ao sn sc an ac sy ay _ (hsy.below U0.bel (Nat.le_refl _)) (hay.below U0.bel (Nat.le_refl _))
  rw [my] at cM1
  have cD := fun V => rowOf_34 V
  obtain ⟨x0, x1, _, _⟩ := box2 U0.x
  clear my
  have hnil := fun V => nM_eqN V (.func 0) #[] #[]
  go_enter Tryz.func12, Tryz.ntmps12
  go_wp2_with (first
    | (go_at_call 20; (with_reducible refine cM1.mono ?_); rintro e w1 ⟨rfl, k1⟩; have U1 := U0.below k1 s0; have s1 := U1.sz)
    | (go_at_call 15; (with_reducible refine (cD w1).mono ?_); rintro e w3 ⟨rfl, k3⟩; have U3 := U1.below k3 s1; have s3 := U3.sz; have U4 := U3.below (box_below w3 (.cells #[.int .i64 34, .nilFunc, .func (.func 39) #[] #[]] 47)) s3; have s4 := U4.sz; obtain ⟨v0, v1, _, _⟩ := box2 U4.x; obtain ⟨z0, z1, z2, z3⟩ := box2 U4.r))
  (try simp only [Exit.inBlock, Exit.then])
  refine bodyPost_ret (v := .tuple #[.agg #[.slice none 0 0, .slice none 0 0], .int .i64 16]) (by rw [results_cell_tmp rfl]; go_simp) rfl ?_
  exact ansQ_nilE (below_set2 _ _ _ _ U4.bel (by omega) (Nat.le_refl _))
theorem monadS_l35E (so ao : Option Addr) (sn sc an ac : Nat) (sy ay : List Int) (w : World) (hsy : Rd w so sn sy) (hay : Rd w ao an ay) (my : mayA sy ay = 0) :
    Calls Tryz.prog 12 #[.int .i64 35, .agg #[.slice so sn sc, .slice ao an ac]] w fun e w' => AnsQ w (fun S A => S = [] ∧ A = []) 16 e w' := by
  have U0 := un_startQ w so sn sc ao an ac
  have s0 := U0.sz
  have cM1 := mayA_any so ao sn sc an ac sy ay _ (hsy.below U0.bel (Nat.le_refl _)) (hay.below U0.bel (Nat.le_refl _))
  rw [my] at cM1
  have cD := fun V => rowOf_35 V
  obtain ⟨x0, x1, _, _⟩ := box2 U0.x
  clear my
  have hnil := fun V => nM_eqN V (.func 0) #[] #[]
  go_enter Tryz.func12, Tryz.ntmps12
  go_wp2_with (first
    | (go_at_call 20; (with_reducible refine cM1.mono ?_); rintro e w1 ⟨rfl, k1⟩; have U1 := U0.below k1 s0; have s1 := U1.sz)
    | (go_at_call 15; (with_reducible refine (cD w1).mono ?_); rintro e w3 ⟨rfl, k3⟩; have U3 := U1.below k3 s1; have s3 := U3.sz; have U4 := U3.below (box_below w3 (.cells #[.int .i64 35, .nilFunc, .func (.func 40) #[] #[]] 47)) s3; have s4 := U4.sz; obtain ⟨v0, v1, _, _⟩ := box2 U4.x; obtain ⟨z0, z1, z2, z3⟩ := box2 U4.r))
  (try simp only [Exit.inBlock, Exit.then])
  refine bodyPost_ret (v := .tuple #[.agg #[.slice none 0 0, .slice none 0 0], .int .i64 16]) (by rw [results_cell_tmp rfl]; go_simp) rfl ?_
  exact ansQ_nilE (below_set2 _ _ _ _ U4.bel (by omega) (Nat.le_refl _))
theorem monadS_l18E (so ao : Option Addr) (sn sc an ac : Nat) (sy ay : List Int) (w : World) (hsy : Rd w so sn sy) (hay : Rd w ao an ay) (my : mayA sy ay = 0) :
    Calls Tryz.prog 12 #[.int .i64 18, .agg #[.slice so sn sc, .slice ao an ac]] w fun e w' => AnsQ w (fun S A => S = [] ∧ A = []) 16 e w' := by
  have U0 := un_startQ w so sn sc ao an ac
  have s0 := U0.sz
  have cM1 := mayA_any so ao sn sc an ac sy ay _ (hsy.below U0.bel (Nat.le_refl _)) (hay.below U0.bel (Nat.le_refl _))
  rw [my] at cM1
  have cD := fun V => rowOf_18 V
  obtain ⟨x0, x1, _, _⟩ := box2 U0.x
  clear my
  have hnil := fun V => nM_eqN V (.func 0) #[] #[]
  go_enter Tryz.func12, Tryz.ntmps12
  go_wp2_with (first
    | (go_at_call 20; (with_reducible refine cM1.mono ?_); rintro e w1 ⟨rfl, k1⟩; have U1 := U0.below k1 s0; have s1 := U1.sz)
    | (go_at_call 15; (with_reducible refine (cD w1).mono ?_); rintro e w3 ⟨rfl, k3⟩; have U3 := U1.below k3 s1; have s3 := U3.sz; have U4 := U3.below (box_below w3 (.cells #[.int .i64 18, .nilFunc, .func (.func 48) #[] #[]] 47)) s3; have s4 := U4.sz; obtain ⟨v0, v1, _, _⟩ := box2 U4.x; obtain ⟨z0, z1, z2, z3⟩ := box2 U4.r))
  (try simp only [Exit.inBlock, Exit.then])
  refine bodyPost_ret (v := .tuple #[.agg #[.slice none 0 0, .slice none 0 0], .int .i64 16]) (by rw [results_cell_tmp rfl]; go_simp) rfl ?_
  exact ansQ_nilE (below_set2 _ _ _ _ U4.bel (by omega) (Nat.le_refl _))
theorem monadS_l19E (so ao : Option Addr) (sn sc an ac : Nat) (sy ay : List Int) (w : World) (hsy : Rd w so sn sy) (hay : Rd w ao an ay) (my : mayA sy ay = 0) :
    Calls Tryz.prog 12 #[.int .i64 19, .agg #[.slice so sn sc, .slice ao an ac]] w fun e w' => AnsQ w (fun S A => S = [] ∧ A = []) 16 e w' := by
  have U0 := un_startQ w so sn sc ao an ac
  have s0 := U0.sz
  have cM1 := mayA_any so ao sn sc an ac sy ay _ (hsy.below U0.bel (Nat.le_refl _)) (hay.below U0.bel (Nat.le_refl _))
  rw [my] at cM1
  have cD := fun V => rowOf_19 V
  obtain ⟨x0, x1, _, _⟩ := box2 U0.x
  clear my
  have hnil := fun V => nM_eqN V (.func 0) #[] #[]
  go_enter Tryz.func12, Tryz.ntmps12
  go_wp2_with (first
    | (go_at_call 20; (with_reducible refine cM1.mono ?_); rintro e w1 ⟨rfl, k1⟩; have U1 := U0.below k1 s0; have s1 := U1.sz)
    | (go_at_call 15; (with_reducible refine (cD w1).mono ?_); rintro e w3 ⟨rfl, k3⟩; have U3 := U1.below k3 s1; have s3 := U3.sz; have U4 := U3.below (box_below w3 (.cells #[.int .i64 19, .nilFunc, .func (.func 49) #[] #[]] 47)) s3; have s4 := U4.sz; obtain ⟨v0, v1, _, _⟩ := box2 U4.x; obtain ⟨z0, z1, z2, z3⟩ := box2 U4.r))
  (try simp only [Exit.inBlock, Exit.then])
  refine bodyPost_ret (v := .tuple #[.agg #[.slice none 0 0, .slice none 0 0], .int .i64 16]) (by rw [results_cell_tmp rfl]; go_simp) rfl ?_
  exact ansQ_nilE (below_set2 _ _ _ _ U4.bel (by omega) (Nat.le_refl _))
theorem dyadS_l36E (xso xo so ao : Option Addr) (xsn xsc xn xc sn sc an ac : Nat) (sx ax sy ay : List Int) (w : World) (hsx : Rd w xso xsn sx) (hax : Rd w xo xn ax) (hsy : Rd w so sn sy) (hay : Rd w ao an ay) (mx : mayA sx ax = 0) (my : mayA sy ay = 0) :
    Calls Tryz.prog 14 #[.int .i64 36, .agg #[.slice xso xsn xsc, .slice xo xn xc], .agg #[.slice so sn sc, .slice ao an ac]] w fun e w' => AnsQ w (fun S A => S = [] ∧ A = []) 16 e w' := by
  have D0 := du_startQ w xso xsn xsc xo xn xc so sn sc ao an ac
  have s0 := D0.sz
  have cM1 := mayA_any xso xo xsn xsc xn xc sx ax _ (hsx.below D0.bel (Nat.le_refl _)) (hax.below D0.bel (Nat.le_refl _))
  have cM2 := fun V (D : DuQ w V xso xsn xsc xo xn xc so sn sc ao an ac) => mayA_any so ao sn sc an ac sy ay V (hsy.below D.bel (Nat.le_refl _)) (hay.below D.bel (Nat.le_refl _))
  rw [mx] at cM1
  rw [my] at cM2
  have cD := fun V => rowOf_36 V
  obtain ⟨x0, x1, _, _⟩ := box2 D0.x
  obtain ⟨x2, x3, _, _⟩ := box2 D0.y
  clear mx my
  have hnil := fun V => nD_eqN V (.func 0) #[] #[]
  go_enter Tryz.func14, Tryz.ntmps14
  go_wp2_with (first
    | (go_at_call 20; (with_reducible refine cM1.mono ?_); rintro e w1 ⟨rfl, k1⟩; have D1 := D0.below k1 s0; have s1 := D1.sz; obtain ⟨y0, y1, _, _⟩ := box2 D1.x; obtain ⟨y2, y3, _, _⟩ := box2 D1.y)
    | (go_at_call 20; (with_reducible refine (cM2 w1 D1).mono ?_); rintro e w2 ⟨rfl, k2⟩; have D2 := D1.below k2 s1; have s2 := D2.sz)
    | (go_at_call 15; (with_reducible refine (cD w2).mono ?_); rintro e w3 ⟨rfl, k3⟩; have D3 := D2.below k3 s2; have s3 := D3.sz; have D4 := D3.below (box_below w3 (.cells #[.int .i64 36, .func (.func 41) #[] #[], .nilFunc] 47)) s3; have s4 := D4.sz; obtain ⟨v0, v1, _, _⟩ := box2 D4.x; obtain ⟨z0, z1, z2, z3⟩ := box2 D4.r))
  (try simp only [Exit.inBlock, Exit.then])
  refine bodyPost_ret (v := .tuple #[.agg #[.slice none 0 0, .slice none 0 0], .int .i64 16]) (by rw [results_cell_tmp rfl]; go_simp) rfl ?_
  exact ansQ_nilE (below_set2 _ _ _ _ D4.bel (by omega) (Nat.le_refl _))
theorem dyadS_l11E (xso xo so ao : Option Addr) (xsn xsc xn xc sn sc an ac : Nat) (sx ax sy ay : List Int) (w : World) (hsx : Rd w xso xsn sx) (hax : Rd w xo xn ax) (hsy : Rd w so sn sy) (hay : Rd w ao an ay) (mx : mayA sx ax = 0) (my : mayA sy ay = 0) :
    Calls Tryz.prog 14 #[.int .i64 11, .agg #[.slice xso xsn xsc, .slice xo xn xc], .agg #[.slice so sn sc, .slice ao an ac]] w fun e w' => AnsQ w (fun S A => S = [] ∧ A = []) 16 e w' := by
  have D0 := du_startQ w xso xsn xsc xo xn xc so sn sc ao an ac
  have s0 := D0.sz
  have cM1 := mayA_any xso xo xsn xsc xn xc sx ax _ (hsx.below D0.bel (Nat.le_refl _)) (hax.below D0.bel (Nat.le_refl _))
  have cM2 := fun V (D : DuQ w V xso xsn xsc xo xn xc so sn sc ao an ac) => mayA_any so ao sn sc an ac sy ay V (hsy.below D.bel (Nat.le_refl _)) (hay.below D.bel (Nat.le_refl _))
  rw [mx] at cM1
  rw [my] at cM2
  have cD := fun V => rowOf_11 V
  obtain ⟨x0, x1, _, _⟩ := box2 D0.x
  obtain ⟨x2, x3, _, _⟩ := box2 D0.y
  clear mx my
  have hnil := fun V => nD_eqN V (.func 0) #[] #[]
  go_enter Tryz.func14, Tryz.ntmps14
  go_wp2_with (first
    | (go_at_call 20; (with_reducible refine cM1.mono ?_); rintro e w1 ⟨rfl, k1⟩; have D1 := D0.below k1 s0; have s1 := D1.sz; obtain ⟨y0, y1, _, _⟩ := box2 D1.x; obtain ⟨y2, y3, _, _⟩ := box2 D1.y)
    | (go_at_call 20; (with_reducible refine (cM2 w1 D1).mono ?_); rintro e w2 ⟨rfl, k2⟩; have D2 := D1.below k2 s1; have s2 := D2.sz)
    | (go_at_call 15; (with_reducible refine (cD w2).mono ?_); rintro e w3 ⟨rfl, k3⟩; have D3 := D2.below k3 s2; have s3 := D3.sz; have D4 := D3.below (box_below w3 (.cells #[.int .i64 11, .func (.func 42) #[] #[], .nilFunc] 47)) s3; have s4 := D4.sz; obtain ⟨v0, v1, _, _⟩ := box2 D4.x; obtain ⟨z0, z1, z2, z3⟩ := box2 D4.r))
  (try simp only [Exit.inBlock, Exit.then])
  refine bodyPost_ret (v := .tuple #[.agg #[.slice none 0 0, .slice none 0 0], .int .i64 16]) (by rw [results_cell_tmp rfl]; go_simp) rfl ?_
  exact ansQ_nilE (below_set2 _ _ _ _ D4.bel (by omega) (Nat.le_refl _))
theorem dyadS_l10E (xso xo so ao : Option Addr) (xsn xsc xn xc sn sc an ac : Nat) (sx ax sy ay : List Int) (w : World) (hsx : Rd w xso xsn sx) (hax : Rd w xo xn ax) (hsy : Rd w so sn sy) (hay : Rd w ao an ay) (mx : mayA sx ax = 0) (my : mayA sy ay = 0) :
    Calls Tryz.prog 14 #[.int .i64 10, .agg #[.slice xso xsn xsc, .slice xo xn xc], .agg #[.slice so sn sc, .slice ao an ac]] w fun e w' => AnsQ w (fun S A => S = [] ∧ A = []) 16 e w' := by
  have D0 := du_startQ w xso xsn xsc xo xn xc so sn sc ao an ac
  have s0 := D0.sz
  have cM1 := mayA_any xso xo xsn xsc xn xc sx ax _ (hsx.below D0.bel (Nat.le_refl _)) (hax.below D0.bel (Nat.le_refl _))
  have cM2 := fun V (D : DuQ w V xso xsn xsc xo xn xc so sn sc ao an ac) => mayA_any so ao sn sc an ac sy ay V (hsy.below D.bel (Nat.le_refl _)) (hay.below D.bel (Nat.le_refl _))
  rw [mx] at cM1
  rw [my] at cM2
  have cD := fun V => rowOf_10 V
  obtain ⟨x0, x1, _, _⟩ := box2 D0.x
  obtain ⟨x2, x3, _, _⟩ := box2 D0.y
  clear mx my
  have hnil := fun V => nD_eqN V (.func 0) #[] #[]
  go_enter Tryz.func14, Tryz.ntmps14
  go_wp2_with (first
    | (go_at_call 20; (with_reducible refine cM1.mono ?_); rintro e w1 ⟨rfl, k1⟩; have D1 := D0.below k1 s0; have s1 := D1.sz; obtain ⟨y0, y1, _, _⟩ := box2 D1.x; obtain ⟨y2, y3, _, _⟩ := box2 D1.y)
    | (go_at_call 20; (with_reducible refine (cM2 w1 D1).mono ?_); rintro e w2 ⟨rfl, k2⟩; have D2 := D1.below k2 s1; have s2 := D2.sz)
    | (go_at_call 15; (with_reducible refine (cD w2).mono ?_); rintro e w3 ⟨rfl, k3⟩; have D3 := D2.below k3 s2; have s3 := D3.sz; have D4 := D3.below (box_below w3 (.cells #[.int .i64 10, .func (.func 43) #[] #[], .nilFunc] 47)) s3; have s4 := D4.sz; obtain ⟨v0, v1, _, _⟩ := box2 D4.x; obtain ⟨z0, z1, z2, z3⟩ := box2 D4.r))
  (try simp only [Exit.inBlock, Exit.then])
  refine bodyPost_ret (v := .tuple #[.agg #[.slice none 0 0, .slice none 0 0], .int .i64 16]) (by rw [results_cell_tmp rfl]; go_simp) rfl ?_
  exact ansQ_nilE (below_set2 _ _ _ _ D4.bel (by omega) (Nat.le_refl _))

theorem nM_neNE (w : World) : (binOp .neq 44 .nilFunc .nilFunc).run Tryz.prog w = .ok (.bool false) w := by
  have hu : Tryz.prog.underlying 44 = some (.func #[30] #[30, 34] false) := by kernel_rfl
  have h : (Op.equal 44 .nilFunc .nilFunc).run Tryz.prog w = .ok true w := by
    show (Op.equalIn (9999 + 1) 44 .nilFunc .nilFunc).run Tryz.prog w = .ok true w
    rw [Op.equalIn]
    simp [Sem.run_bind, run_underlying hu, Result.andThen]
  simp [binOp, h]
theorem nD_neFE (w : World) (f : Fn) (a c : Array Value) : (binOp .neq 45 (.func f a c) .nilFunc).run Tryz.prog w = .ok (.bool true) w := by
  have hu : Tryz.prog.underlying 45 = some (.func #[30, 30] #[30, 34] false) := by kernel_rfl
  have h : (Op.equal 45 (.func f a c) .nilFunc).run Tryz.prog w = .ok false w := by
    show (Op.equalIn (9999 + 1) 45 (.func f a c) .nilFunc).run Tryz.prog w = .ok false w
    rw [Op.equalIn]
    simp [Sem.run_bind, run_underlying hu, Result.andThen]
  simp [binOp, h]

set_option linter.unusedSimpArgs false in
theorem has7_any (op v : Int) (w : World) : Calls Tryz.prog 5 #[.int .i64 op, .int .i64 v] w fun e w' => e = .returned (.bool (hsS op v)) ∧ Below w.heap.size w w' := by
  have hn1 := fun V f a c => nM_neF V f a c
  have hn2 := fun V => nM_neNE V
  have hn3 := fun V f a c => nD_neFE V f a c
  have hn4 := fun V => nD_neN V (.func 0) #[] #[]
  by_cases h27 : op = 27
  · subst h27
    have R1 : hsS 27 1 = false := by decide
    have R2 : hsS 27 2 = true := by decide
    have R3 : ∀ v, v ≠ 1 → v ≠ 2 → hsS 27 v = false := fun v _ h2 => by simp [hsS, h2]
    have cD := fun V => rowOf_27 V
    by_cases e1 : v = 1
    · subst e1
      rw [show hsS 27 1 = false from R1]
      clear R1 R2 R3
      go_enter Tryz.func5, Tryz.ntmps5
      go_wp2_with (go_at_call 15; (with_reducible refine (cD _).mono ?_); rintro e w3 ⟨rfl, k3⟩)
      go_ret
      exact ⟨rfl, k3.trans ((box_below w3 _).mono k3.size)⟩
    by_cases e2 : v = 2
    · subst e2
      rw [show hsS 27 2 = true from R2]
      clear R1 R2 R3 e1
      go_enter Tryz.func5, Tryz.ntmps5
      go_wp2_with (go_at_call 15; (with_reducible refine (cD _).mono ?_); rintro e w3 ⟨rfl, k3⟩)
      go_ret
      exact ⟨rfl, k3.trans ((box_below w3 _).mono k3.size)⟩
    rw [R3 v e1 e2]
    have t1 : (v == 1) = false := by simpa using e1
    have t2 : (v == 2) = false := by simpa using e2
    clear R1 R2 R3 e1 e2
    go_enter Tryz.func5, Tryz.ntmps5
    go_wp2_with (go_at_call 15; (with_reducible refine (cD _).mono ?_); rintro e w3 ⟨rfl, k3⟩)
    go_ret
    exact ⟨rfl, k3.trans ((box_below w3 _).mono k3.size)⟩
  by_cases h34 : op = 34
  · subst h34
    have R1 : hsS 34 1 = false := by decide
    have R2 : hsS 34 2 = true := by decide
    have R3 : ∀ v, v ≠ 1 → v ≠ 2 → hsS 34 v = false := fun v _ h2 => by simp [hsS, h2]
    have cD := fun V => rowOf_34 V
    by_cases e1 : v = 1
    · subst e1
      rw [show hsS 34 1 = false from R1]
      clear R1 R2 R3
      go_enter Tryz.func5, Tryz.ntmps5
      go_wp2_with (go_at_call 15; (with_reducible refine (cD _).mono ?_); rintro e w3 ⟨rfl, k3⟩)
      go_ret
      exact ⟨rfl, k3.trans ((box_below w3 _).mono k3.size)⟩
    by_cases e2 : v = 2
    · subst e2
      rw [show hsS 34 2 = true from R2]
      clear R1 R2 R3 e1
      go_enter Tryz.func5, Tryz.ntmps5
      go_wp2_with (go_at_call 15; (with_reducible refine (cD _).mono ?_); rintro e w3 ⟨rfl, k3⟩)
      go_ret
      exact ⟨rfl, k3.trans ((box_below w3 _).mono k3.size)⟩
    rw [R3 v e1 e2]
    have t1 : (v == 1) = false := by simpa using e1
    have t2 : (v == 2) = false := by simpa using e2
    clear R1 R2 R3 e1 e2
    go_enter Tryz.func5, Tryz.ntmps5
    go_wp2_with (go_at_call 15; (with_reducible refine (cD _).mono ?_); rintro e w3 ⟨rfl, k3⟩)
    go_ret
    exact ⟨rfl, k3.trans ((box_below w3 _).mono k3.size)⟩
  by_cases h35 : op = 35
  · subst h35
    have R1 : hsS 35 1 = false := by decide
    have R2 : hsS 35 2 = true := by decide
    have R3 : ∀ v, v ≠ 1 → v ≠ 2 → hsS 35 v = false := fun v h1 h2 => by simp [hsS, h1, h2]
    have cD := fun V => rowOf_35 V
    by_cases e1 : v = 1
    · subst e1
      rw [show hsS 35 1 = false from R1]
      clear R1 R2 R3
      go_enter Tryz.func5, Tryz.ntmps5
      go_wp2_with (go_at_call 15; (with_reducible refine (cD _).mono ?_); rintro e w3 ⟨rfl, k3⟩)
      go_ret
      exact ⟨rfl, k3.trans ((box_below w3 _).mono k3.size)⟩
    by_cases e2 : v = 2
    · subst e2
      rw [show hsS 35 2 = true from R2]
      clear R1 R2 R3 e1
      go_enter Tryz.func5, Tryz.ntmps5
      go_wp2_with (go_at_call 15; (with_reducible refine (cD _).mono ?_); rintro e w3 ⟨rfl, k3⟩)
      go_ret
      exact ⟨rfl, k3.trans ((box_below w3 _).mono k3.size)⟩
    rw [R3 v e1 e2]
    have t1 : (v == 1) = false := by simpa using e1
    have t2 : (v == 2) = false := by simpa using e2
    clear R1 R2 R3 e1 e2
    go_enter Tryz.func5, Tryz.ntmps5
    go_wp2_with (go_at_call 15; (with_reducible refine (cD _).mono ?_); rintro e w3 ⟨rfl, k3⟩)
    go_ret
    exact ⟨rfl, k3.trans ((box_below w3 _).mono k3.size)⟩
  by_cases h36 : op = 36
  · subst h36
    have R1 : hsS 36 1 = true := by decide
    have R2 : hsS 36 2 = false := by decide
    have R3 : ∀ v, v ≠ 1 → v ≠ 2 → hsS 36 v = false := fun v h1 h2 => by simp [hsS, h1, h2]
    have cD := fun V => rowOf_36 V
    by_cases e1 : v = 1
    · subst e1
      rw [show hsS 36 1 = true from R1]
      clear R1 R2 R3
      go_enter Tryz.func5, Tryz.ntmps5
      go_wp2_with (go_at_call 15; (with_reducible refine (cD _).mono ?_); rintro e w3 ⟨rfl, k3⟩)
      go_ret
      exact ⟨rfl, k3.trans ((box_below w3 _).mono k3.size)⟩
    by_cases e2 : v = 2
    · subst e2
      rw [show hsS 36 2 = false from R2]
      clear R1 R2 R3 e1
      go_enter Tryz.func5, Tryz.ntmps5
      go_wp2_with (go_at_call 15; (with_reducible refine (cD _).mono ?_); rintro e w3 ⟨rfl, k3⟩)
      go_ret
      exact ⟨rfl, k3.trans ((box_below w3 _).mono k3.size)⟩
    rw [R3 v e1 e2]
    have t1 : (v == 1) = false := by simpa using e1
    have t2 : (v == 2) = false := by simpa using e2
    clear R1 R2 R3 e1 e2
    go_enter Tryz.func5, Tryz.ntmps5
    go_wp2_with (go_at_call 15; (with_reducible refine (cD _).mono ?_); rintro e w3 ⟨rfl, k3⟩)
    go_ret
    exact ⟨rfl, k3.trans ((box_below w3 _).mono k3.size)⟩
  by_cases h11 : op = 11
  · subst h11
    have R1 : hsS 11 1 = true := by decide
    have R2 : hsS 11 2 = false := by decide
    have R3 : ∀ v, v ≠ 1 → v ≠ 2 → hsS 11 v = false := fun v h1 h2 => by simp [hsS, h1, h2]
    have cD := fun V => rowOf_11 V
    by_cases e1 : v = 1
    · subst e1
      rw [show hsS 11 1 = true from R1]
      clear R1 R2 R3
      go_enter Tryz.func5, Tryz.ntmps5
      go_wp2_with (go_at_call 15; (with_reducible refine (cD _).mono ?_); rintro e w3 ⟨rfl, k3⟩)
      go_ret
      exact ⟨rfl, k3.trans ((box_below w3 _).mono k3.size)⟩
    by_cases e2 : v = 2
    · subst e2
      rw [show hsS 11 2 = false from R2]
      clear R1 R2 R3 e1
      go_enter Tryz.func5, Tryz.ntmps5
      go_wp2_with (go_at_call 15; (with_reducible refine (cD _).mono ?_); rintro e w3 ⟨rfl, k3⟩)
      go_ret
      exact ⟨rfl, k3.trans ((box_below w3 _).mono k3.size)⟩
    rw [R3 v e1 e2]
    have t1 : (v == 1) = false := by simpa using e1
    have t2 : (v == 2) = false := by simpa using e2
    clear R1 R2 R3 e1 e2
    go_enter Tryz.func5, Tryz.ntmps5
    go_wp2_with (go_at_call 15; (with_reducible refine (cD _).mono ?_); rintro e w3 ⟨rfl, k3⟩)
    go_ret
    exact ⟨rfl, k3.trans ((box_below w3 _).mono k3.size)⟩
  by_cases h10 : op = 10
  · subst h10
    have R1 : hsS 10 1 = true := by decide
    have R2 : hsS 10 2 = false := by decide
    have R3 : ∀ v, v ≠ 1 → v ≠ 2 → hsS 10 v = false := fun v h1 h2 => by simp [hsS, h1, h2]
    have cD := fun V => rowOf_10 V
    by_cases e1 : v = 1
    · subst e1
      rw [show hsS 10 1 = true from R1]
      clear R1 R2 R3
      go_enter Tryz.func5, Tryz.ntmps5
      go_wp2_with (go_at_call 15; (with_reducible refine (cD _).mono ?_); rintro e w3 ⟨rfl, k3⟩)
      go_ret
      exact ⟨rfl, k3.trans ((box_below w3 _).mono k3.size)⟩
    by_cases e2 : v = 2
    · subst e2
      rw [show hsS 10 2 = false from R2]
      clear R1 R2 R3 e1
      go_enter Tryz.func5, Tryz.ntmps5
      go_wp2_with (go_at_call 15; (with_reducible refine (cD _).mono ?_); rintro e w3 ⟨rfl, k3⟩)
      go_ret
      exact ⟨rfl, k3.trans ((box_below w3 _).mono k3.size)⟩
    rw [R3 v e1 e2]
    have t1 : (v == 1) = false := by simpa using e1
    have t2 : (v == 2) = false := by simpa using e2
    clear R1 R2 R3 e1 e2
    go_enter Tryz.func5, Tryz.ntmps5
    go_wp2_with (go_at_call 15; (with_reducible refine (cD _).mono ?_); rintro e w3 ⟨rfl, k3⟩)
    go_ret
    exact ⟨rfl, k3.trans ((box_below w3 _).mono k3.size)⟩
  by_cases h37 : op = 37
  · subst h37
    have R1 : hsS 37 1 = true := by decide
    have R2 : hsS 37 2 = true := by decide
    have R3 : ∀ v, v ≠ 1 → v ≠ 2 → hsS 37 v = false := fun v h1 h2 => by simp [hsS, h1, h2]
    have cD := fun V => rowOf_37 V
    by_cases e1 : v = 1
    · subst e1
      rw [show hsS 37 1 = true from R1]
      clear R1 R2 R3
      go_enter Tryz.func5, Tryz.ntmps5
      go_wp2_with (go_at_call 15; (with_reducible refine (cD _).mono ?_); rintro e w3 ⟨rfl, k3⟩)
      go_ret
      exact ⟨rfl, k3.trans ((box_below w3 _).mono k3.size)⟩
    by_cases e2 : v = 2
    · subst e2
      rw [show hsS 37 2 = true from R2]
      clear R1 R2 R3 e1
      go_enter Tryz.func5, Tryz.ntmps5
      go_wp2_with (go_at_call 15; (with_reducible refine (cD _).mono ?_); rintro e w3 ⟨rfl, k3⟩)
      go_ret
      exact ⟨rfl, k3.trans ((box_below w3 _).mono k3.size)⟩
    rw [R3 v e1 e2]
    have t1 : (v == 1) = false := by simpa using e1
    have t2 : (v == 2) = false := by simpa using e2
    clear R1 R2 R3 e1 e2
    go_enter Tryz.func5, Tryz.ntmps5
    go_wp2_with (go_at_call 15; (with_reducible refine (cD _).mono ?_); rintro e w3 ⟨rfl, k3⟩)
    go_ret
    exact ⟨rfl, k3.trans ((box_below w3 _).mono k3.size)⟩
  by_cases h38 : op = 38
  · subst h38
    have R1 : hsS 38 1 = true := by decide
    have R2 : hsS 38 2 = true := by decide
    have R3 : ∀ v, v ≠ 1 → v ≠ 2 → hsS 38 v = false := fun v h1 h2 => by simp [hsS, h1, h2]
    have cD := fun V => rowOf_38 V
    by_cases e1 : v = 1
    · subst e1
      rw [show hsS 38 1 = true from R1]
      clear R1 R2 R3
      go_enter Tryz.func5, Tryz.ntmps5
      go_wp2_with (go_at_call 15; (with_reducible refine (cD _).mono ?_); rintro e w3 ⟨rfl, k3⟩)
      go_ret
      exact ⟨rfl, k3.trans ((box_below w3 _).mono k3.size)⟩
    by_cases e2 : v = 2
    · subst e2
      rw [show hsS 38 2 = true from R2]
      clear R1 R2 R3 e1
      go_enter Tryz.func5, Tryz.ntmps5
      go_wp2_with (go_at_call 15; (with_reducible refine (cD _).mono ?_); rintro e w3 ⟨rfl, k3⟩)
      go_ret
      exact ⟨rfl, k3.trans ((box_below w3 _).mono k3.size)⟩
    rw [R3 v e1 e2]
    have t1 : (v == 1) = false := by simpa using e1
    have t2 : (v == 2) = false := by simpa using e2
    clear R1 R2 R3 e1 e2
    go_enter Tryz.func5, Tryz.ntmps5
    go_wp2_with (go_at_call 15; (with_reducible refine (cD _).mono ?_); rintro e w3 ⟨rfl, k3⟩)
    go_ret
    exact ⟨rfl, k3.trans ((box_below w3 _).mono k3.size)⟩
  by_cases h18 : op = 18
  · subst h18
    have R1 : hsS 18 1 = false := by decide
    have R2 : hsS 18 2 = true := by decide
    have R3 : ∀ v, v ≠ 1 → v ≠ 2 → hsS 18 v = false := fun v h1 h2 => by simp [hsS, h1, h2]
    have cD := fun V => rowOf_18 V
    by_cases e1 : v = 1
    · subst e1
      rw [show hsS 18 1 = false from R1]
      clear R1 R2 R3
      go_enter Tryz.func5, Tryz.ntmps5
      go_wp2_with (go_at_call 15; (with_reducible refine (cD _).mono ?_); rintro e w3 ⟨rfl, k3⟩)
      go_ret
      exact ⟨rfl, k3.trans ((box_below w3 _).mono k3.size)⟩
    by_cases e2 : v = 2
    · subst e2
      rw [show hsS 18 2 = true from R2]
      clear R1 R2 R3 e1
      go_enter Tryz.func5, Tryz.ntmps5
      go_wp2_with (go_at_call 15; (with_reducible refine (cD _).mono ?_); rintro e w3 ⟨rfl, k3⟩)
      go_ret
      exact ⟨rfl, k3.trans ((box_below w3 _).mono k3.size)⟩
    rw [R3 v e1 e2]
    have t1 : (v == 1) = false := by simpa using e1
    have t2 : (v == 2) = false := by simpa using e2
    clear R1 R2 R3 e1 e2
    go_enter Tryz.func5, Tryz.ntmps5
    go_wp2_with (go_at_call 15; (with_reducible refine (cD _).mono ?_); rintro e w3 ⟨rfl, k3⟩)
    go_ret
    exact ⟨rfl, k3.trans ((box_below w3 _).mono k3.size)⟩
  by_cases h19 : op = 19
  · subst h19
    have R1 : hsS 19 1 = false := by decide
    have R2 : hsS 19 2 = true := by decide
    have R3 : ∀ v, v ≠ 1 → v ≠ 2 → hsS 19 v = false := fun v h1 h2 => by simp [hsS, h1, h2]
    have cD := fun V => rowOf_19 V
    by_cases e1 : v = 1
    · subst e1
      rw [show hsS 19 1 = false from R1]
      clear R1 R2 R3
      go_enter Tryz.func5, Tryz.ntmps5
      go_wp2_with (go_at_call 15; (with_reducible refine (cD _).mono ?_); rintro e w3 ⟨rfl, k3⟩)
      go_ret
      exact ⟨rfl, k3.trans ((box_below w3 _).mono k3.size)⟩
    by_cases e2 : v = 2
    · subst e2
      rw [show hsS 19 2 = true from R2]
      clear R1 R2 R3 e1
      go_enter Tryz.func5, Tryz.ntmps5
      go_wp2_with (go_at_call 15; (with_reducible refine (cD _).mono ?_); rintro e w3 ⟨rfl, k3⟩)
      go_ret
      exact ⟨rfl, k3.trans ((box_below w3 _).mono k3.size)⟩
    rw [R3 v e1 e2]
    have t1 : (v == 1) = false := by simpa using e1
    have t2 : (v == 2) = false := by simpa using e2
    clear R1 R2 R3 e1 e2
    go_enter Tryz.func5, Tryz.ntmps5
    go_wp2_with (go_at_call 15; (with_reducible refine (cD _).mono ?_); rintro e w3 ⟨rfl, k3⟩)
    go_ret
    exact ⟨rfl, k3.trans ((box_below w3 _).mono k3.size)⟩
  have rr : rowS op = false := decide_eq_false (by rintro (e | e | e | e | e | e | e | e | e | e) <;> contradiction)
  have R0 : ∀ v, hsS op v = false := fun v => by simp [hsS, h36, h11, h10, h37, h38, rr]
  have R1 : hsS op 1 = false := R0 1
  have R2 : hsS op 2 = false := R0 2
  have R3 : ∀ v, v ≠ 1 → v ≠ 2 → hsS op v = false := fun v _ _ => R0 v
  have cN := rowOf_no op (none_of ⟨h27, h34, h35, h36, h11, h10, h37, h38, h18, h19⟩)
  clear rr R0 h27 h34 h35 h36 h11 h10 h37 h38 h18 h19
  have cD := fun V => cN V
  by_cases e1 : v = 1
  · subst e1
    rw [show hsS op 1 = false from R1]
    clear R1 R2 R3
    go_enter Tryz.func5, Tryz.ntmps5
    go_wp2_with (go_at_call 15; (with_reducible refine (cD _).mono ?_); rintro e w3 ⟨rfl, k3⟩)
    go_ret
    exact ⟨rfl, k3.trans ((box_below w3 _).mono k3.size)⟩
  by_cases e2 : v = 2
  · subst e2
    rw [show hsS op 2 = false from R2]
    clear R1 R2 R3 e1
    go_enter Tryz.func5, Tryz.ntmps5
    go_wp2_with (go_at_call 15; (with_reducible refine (cD _).mono ?_); rintro e w3 ⟨rfl, k3⟩)
    go_ret
    exact ⟨rfl, k3.trans ((box_below w3 _).mono k3.size)⟩
  rw [R3 v e1 e2]
  have t1 : (v == 1) = false := by simpa using e1
  have t2 : (v == 2) = false := by simpa using e2
  clear R1 R2 R3 e1 e2
  go_enter Tryz.func5, Tryz.ntmps5
  go_wp2_with (go_at_call 15; (with_reducible refine (cD _).mono ?_); rintro e w3 ⟨rfl, k3⟩)
  go_ret
  exact ⟨rfl, k3.trans ((box_below w3 _).mono k3.size)⟩
end Go.Proofs.YtmepcenbaohcoaaGreat
