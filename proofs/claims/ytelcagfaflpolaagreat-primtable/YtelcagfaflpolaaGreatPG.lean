
/- Package prim: Monad and Dyad out of their lifting. -/

import Derived.Test.YtelcagfaflpolaaGreatPF

namespace Go.Proofs.YtelcagfaflpolaaGreat

open Go.RowKit

set_option linter.unusedVariables false

set_option maxHeartbeats 2000000 in
theorem monadP_bad (so ao : Option Addr) (sn sc an ac : Nat) (sy ay : List Int) (w : World) (hsy : Rd w so sn sy) (hay : Rd w ao an ay) (my : mayA sy ay ≠ 0) (op : Int) :
    Calls Tryz.prog 16 #[.int .i64 op, .agg #[.slice so sn sc, .slice ao an ac]] w fun e w' => AnsP w 1 [] [] e w' := by
  have U0 := un_startZ w so sn sc ao an ac
  have s0 := U0.sz
  have cM1 := mayA_any so ao sn sc an ac sy ay _ (hsy.below U0.bel (Nat.le_refl _)) (hay.below U0.bel (Nat.le_refl _))
  have h0' : (mayA sy ay != 0) = true := by simpa using my
  clear my
  obtain ⟨x0, x1, _, _⟩ := box2 U0.x
  go_enter Tryz.func16, Tryz.ntmps16
  go_wp2_with (first
    | (go_at_call 13; (with_reducible refine cM1.mono ?_); rintro e w1 ⟨rfl, k1⟩
       have U1 := U0.below k1 s0
       have s1 := U1.sz
       clear x0 x1
       obtain ⟨x0, x1, _, _⟩ := box2 U1.x
       obtain ⟨z0, z1, z2, z3⟩ := box2 U1.r
       clear cM1))
  (try simp only [Exit.inBlock, Exit.then])
  refine bodyPost_ret (v := .tuple #[.agg #[.slice none 0 0, .slice none 0 0], .int .i64 1]) (by rw [results_cell_tmp rfl]; go_simp) rfl ?_
  exact ansP_no w 1 (below_set2 _ _ _ _ U1.bel (by omega) (Nat.le_refl _))

set_option maxHeartbeats 2000000 in
theorem monadP_op (so ao : Option Addr) (sn sc an ac : Nat) (sy ay : List Int) (w : World) (hsy : Rd w so sn sy) (hay : Rd w ao an ay) (my : mayA sy ay = 0) (op : Int) (ho : op < 1 ∨ 43 < op) :
    Calls Tryz.prog 16 #[.int .i64 op, .agg #[.slice so sn sc, .slice ao an ac]] w fun e w' => AnsP w 1 [] [] e w' := by
  have U0 := un_startZ w so sn sc ao an ac
  have s0 := U0.sz
  have cM1 := mayA_any so ao sn sc an ac sy ay _ (hsy.below U0.bel (Nat.le_refl _)) (hay.below U0.bel (Nat.le_refl _))
  rw [my] at cM1
  have hr := fun W => rowOf_no op W ho
  clear ho
  obtain ⟨x0, x1, _, _⟩ := box2 U0.x
  go_enter Tryz.func16, Tryz.ntmps16
  go_wp2_with (first
    | (go_at_call 13; (with_reducible refine cM1.mono ?_); rintro e w1 ⟨rfl, k1⟩
       have U1 := U0.below k1 s0
       have s1 := U1.sz
       clear x0 x1
       obtain ⟨x0, x1, _, _⟩ := box2 U1.x
       obtain ⟨z0, z1, z2, z3⟩ := box2 U1.r
       clear cM1)
    | (go_at_call 26; (with_reducible refine (hr _).mono ?_); rintro e w3 ⟨rfl, k3⟩
       have U3 := U1.below k3 s1
       have s3 := U3.sz
       have U4 := U3.below (box_below w3 (.cells #[.int .i64 0, .string ⟨#[]⟩, .nilFunc, .int .i64 0, .nilFunc, .int .i64 0, .int .i64 0, .int .i64 0, .bool false, .bool false] 63)) s3
       have s4 := U4.sz
       clear x0 x1 z0 z1 z2 z3
       obtain ⟨x0, x1, _, _⟩ := box2 U4.x
       obtain ⟨z0, z1, z2, z3⟩ := box2 U4.r
       obtain ⟨⟨q0, q1, q2, q3, q4, q5, q6, q7, q8, q9⟩, _⟩ := bx10 (allocNew w3 (.cells #[.int .i64 0, .string ⟨#[]⟩, .nilFunc, .int .i64 0, .nilFunc, .int .i64 0, .int .i64 0, .int .i64 0, .bool false, .bool false] 63))
       clear hr))
  (try simp only [Exit.inBlock, Exit.then])
  refine bodyPost_ret (v := .tuple #[.agg #[.slice none 0 0, .slice none 0 0], .int .i64 1]) (by rw [results_cell_tmp rfl]; go_simp) rfl ?_
  exact ansP_no w 1 (below_set2 _ _ _ _ U4.bel (by omega) (Nat.le_refl _))

set_option maxHeartbeats 2000000 in
theorem monadP_val0 (so ao : Option Addr) (sn sc an ac : Nat) (sy ay : List Int) (w : World) (hsy : Rd w so sn sy) (hay : Rd w ao an ay) (my : mayA sy ay = 0) (k : Nat) (sp : ByteArray) (fm fd : FuncId) (r l g i : Int) (h c : Bool) (hr : ∀ W, Calls Tryz.prog 26 #[.int .i64 ((k : Int) + 1)] W fun e w' => e = .returned (.tuple #[.agg #[.int .i64 ((k : Int) + 1), .string sp, .nilFunc, .int .i64 r, .func (.func fd) #[] #[], .int .i64 l, .int .i64 g, .int .i64 i, .bool h, .bool c], .int .i64 0]) ∧ Below W.heap.size W w') :
    Calls Tryz.prog 16 #[.int .i64 ((k : Int) + 1), .agg #[.slice so sn sc, .slice ao an ac]] w fun e w' => AnsP w 16 [] [] e w' := by
  have U0 := un_startZ w so sn sc ao an ac
  have s0 := U0.sz
  have cM1 := mayA_any so ao sn sc an ac sy ay _ (hsy.below U0.bel (Nat.le_refl _)) (hay.below U0.bel (Nat.le_refl _))
  rw [my] at cM1
  have e1 := fun V => nP_eqN V default #[] #[]
  obtain ⟨x0, x1, _, _⟩ := box2 U0.x
  go_enter Tryz.func16, Tryz.ntmps16
  go_wp2_with (first
    | (go_at_call 13; (with_reducible refine cM1.mono ?_); rintro e w1 ⟨rfl, k1⟩
       have U1 := U0.below k1 s0
       have s1 := U1.sz
       clear x0 x1
       obtain ⟨x0, x1, _, _⟩ := box2 U1.x
       obtain ⟨z0, z1, z2, z3⟩ := box2 U1.r
       clear cM1)
    | (go_at_call 26; (with_reducible refine (hr _).mono ?_); rintro e w3 ⟨rfl, k3⟩
       have U3 := U1.below k3 s1
       have s3 := U3.sz
       have U4 := U3.below (box_below w3 (.cells #[.int .i64 ((k : Int) + 1), .string sp, .nilFunc, .int .i64 r, .func (.func fd) #[] #[], .int .i64 l, .int .i64 g, .int .i64 i, .bool h, .bool c] 63)) s3
       have s4 := U4.sz
       clear x0 x1 z0 z1 z2 z3
       obtain ⟨x0, x1, _, _⟩ := box2 U4.x
       obtain ⟨z0, z1, z2, z3⟩ := box2 U4.r
       obtain ⟨⟨q0, q1, q2, q3, q4, q5, q6, q7, q8, q9⟩, _⟩ := bx10 (allocNew w3 (.cells #[.int .i64 ((k : Int) + 1), .string sp, .nilFunc, .int .i64 r, .func (.func fd) #[] #[], .int .i64 l, .int .i64 g, .int .i64 i, .bool h, .bool c] 63))
       clear hr))
  (try simp only [Exit.inBlock, Exit.then])
  refine bodyPost_ret (v := .tuple #[.agg #[.slice none 0 0, .slice none 0 0], .int .i64 16]) (by rw [results_cell_tmp rfl]; go_simp) rfl ?_
  exact ansP_no w 16 (below_set2 _ _ _ _ U4.bel (by omega) (Nat.le_refl _))

set_option maxHeartbeats 2000000 in
theorem monadP_gon (so ao : Option Addr) (sn sc an ac : Nat) (sy ay : List Int) (w : World) (hsy : Rd w so sn sy) (hay : Rd w ao an ay) (my : mayA sy ay = 0) (k : Nat) (sp : ByteArray) (fm fd : FuncId) (r l g i : Int) (h c : Bool) (E : Int) (S A : List Int) (hr : ∀ W, Calls Tryz.prog 26 #[.int .i64 ((k : Int) + 1)] W fun e w' => e = .returned (.tuple #[.agg #[.int .i64 ((k : Int) + 1), .string sp, .func (.func fm) #[] #[], .int .i64 r, .nilFunc, .int .i64 l, .int .i64 g, .int .i64 i, .bool h, .bool c], .int .i64 0]) ∧ Below W.heap.size W w')
    (hl : ∀ V, Below w.heap.size w V → Calls Tryz.prog 36 #[.agg #[.slice so sn sc, .slice ao an ac], .int .i64 r, .func (.func 37) #[.agg #[.int .i64 ((k : Int) + 1), .string sp, .func (.func fm) #[] #[], .int .i64 r, .nilFunc, .int .i64 l, .int .i64 g, .int .i64 i, .bool h, .bool c]] #[]] V fun e w' => AnsP V E S A e w') :
    Calls Tryz.prog 16 #[.int .i64 ((k : Int) + 1), .agg #[.slice so sn sc, .slice ao an ac]] w fun e w' => AnsP w E S A e w' := by
  have U0 := un_startZ w so sn sc ao an ac
  have s0 := U0.sz
  have cM1 := mayA_any so ao sn sc an ac sy ay _ (hsy.below U0.bel (Nat.le_refl _)) (hay.below U0.bel (Nat.le_refl _))
  rw [my] at cM1
  have e1 := fun V => nP_eqF V (.func fm) #[] #[]
  obtain ⟨x0, x1, _, _⟩ := box2 U0.x
  go_enter Tryz.func16, Tryz.ntmps16
  go_wp2_with (first
    | (go_at_call 13; (with_reducible refine cM1.mono ?_); rintro e w1 ⟨rfl, k1⟩
       have U1 := U0.below k1 s0
       have s1 := U1.sz
       clear x0 x1
       obtain ⟨x0, x1, _, _⟩ := box2 U1.x
       obtain ⟨z0, z1, z2, z3⟩ := box2 U1.r
       clear cM1)
    | (go_at_call 26; (with_reducible refine (hr _).mono ?_); rintro e w3 ⟨rfl, k3⟩
       have U3 := U1.below k3 s1
       have s3 := U3.sz
       have U4 := U3.below (box_below w3 (.cells #[.int .i64 ((k : Int) + 1), .string sp, .func (.func fm) #[] #[], .int .i64 r, .nilFunc, .int .i64 l, .int .i64 g, .int .i64 i, .bool h, .bool c] 63)) s3
       have s4 := U4.sz
       clear x0 x1 z0 z1 z2 z3
       obtain ⟨x0, x1, _, _⟩ := box2 U4.x
       obtain ⟨z0, z1, z2, z3⟩ := box2 U4.r
       obtain ⟨⟨q0, q1, q2, q3, q4, q5, q6, q7, q8, q9⟩, _⟩ := bx10 (allocNew w3 (.cells #[.int .i64 ((k : Int) + 1), .string sp, .func (.func fm) #[] #[], .int .i64 r, .nilFunc, .int .i64 l, .int .i64 g, .int .i64 i, .bool h, .bool c] 63))
       clear hr)
    | (go_at_call 36; (with_reducible refine (hl _ U4.bel).mono ?_); rintro e w5 ⟨o1, n1, c1, o2, n2, c2, rfl, f1, f2, k5⟩
       have U5 := U4.below k5 s4
       clear z0 z1 z2 z3
       obtain ⟨z0, z1, z2, z3⟩ := box2 U5.r
       clear hl))
  (try simp only [Exit.inBlock, Exit.then])
  refine bodyPost_ret (v := .tuple #[.agg #[.slice o1 n1 c1, .slice o2 n2 c2], .int .i64 E]) (by rw [results_cell_tmp rfl]; go_simp) rfl ?_
  exact ansP_box f1 f2 (by omega) (by omega) U5.bel

set_option maxHeartbeats 2000000 in
theorem monadP_gof (so ao : Option Addr) (sn sc an ac : Nat) (sy ay : List Int) (w : World) (hsy : Rd w so sn sy) (hay : Rd w ao an ay) (my : mayA sy ay = 0) (k : Nat) (sp : ByteArray) (fm fd : FuncId) (r l g i : Int) (h c : Bool) (E : Int) (S A : List Int) (hr : ∀ W, Calls Tryz.prog 26 #[.int .i64 ((k : Int) + 1)] W fun e w' => e = .returned (.tuple #[.agg #[.int .i64 ((k : Int) + 1), .string sp, .func (.func fm) #[] #[], .int .i64 r, .func (.func fd) #[] #[], .int .i64 l, .int .i64 g, .int .i64 i, .bool h, .bool c], .int .i64 0]) ∧ Below W.heap.size W w')
    (hl : ∀ V, Below w.heap.size w V → Calls Tryz.prog 36 #[.agg #[.slice so sn sc, .slice ao an ac], .int .i64 r, .func (.func 37) #[.agg #[.int .i64 ((k : Int) + 1), .string sp, .func (.func fm) #[] #[], .int .i64 r, .func (.func fd) #[] #[], .int .i64 l, .int .i64 g, .int .i64 i, .bool h, .bool c]] #[]] V fun e w' => AnsP V E S A e w') :
    Calls Tryz.prog 16 #[.int .i64 ((k : Int) + 1), .agg #[.slice so sn sc, .slice ao an ac]] w fun e w' => AnsP w E S A e w' := by
  have U0 := un_startZ w so sn sc ao an ac
  have s0 := U0.sz
  have cM1 := mayA_any so ao sn sc an ac sy ay _ (hsy.below U0.bel (Nat.le_refl _)) (hay.below U0.bel (Nat.le_refl _))
  rw [my] at cM1
  have e1 := fun V => nP_eqF V (.func fm) #[] #[]
  obtain ⟨x0, x1, _, _⟩ := box2 U0.x
  go_enter Tryz.func16, Tryz.ntmps16
  go_wp2_with (first
    | (go_at_call 13; (with_reducible refine cM1.mono ?_); rintro e w1 ⟨rfl, k1⟩
       have U1 := U0.below k1 s0
       have s1 := U1.sz
       clear x0 x1
       obtain ⟨x0, x1, _, _⟩ := box2 U1.x
       obtain ⟨z0, z1, z2, z3⟩ := box2 U1.r
       clear cM1)
    | (go_at_call 26; (with_reducible refine (hr _).mono ?_); rintro e w3 ⟨rfl, k3⟩
       have U3 := U1.below k3 s1
       have s3 := U3.sz
       have U4 := U3.below (box_below w3 (.cells #[.int .i64 ((k : Int) + 1), .string sp, .func (.func fm) #[] #[], .int .i64 r, .func (.func fd) #[] #[], .int .i64 l, .int .i64 g, .int .i64 i, .bool h, .bool c] 63)) s3
       have s4 := U4.sz
       clear x0 x1 z0 z1 z2 z3
       obtain ⟨x0, x1, _, _⟩ := box2 U4.x
       obtain ⟨z0, z1, z2, z3⟩ := box2 U4.r
       obtain ⟨⟨q0, q1, q2, q3, q4, q5, q6, q7, q8, q9⟩, _⟩ := bx10 (allocNew w3 (.cells #[.int .i64 ((k : Int) + 1), .string sp, .func (.func fm) #[] #[], .int .i64 r, .func (.func fd) #[] #[], .int .i64 l, .int .i64 g, .int .i64 i, .bool h, .bool c] 63))
       clear hr)
    | (go_at_call 36; (with_reducible refine (hl _ U4.bel).mono ?_); rintro e w5 ⟨o1, n1, c1, o2, n2, c2, rfl, f1, f2, k5⟩
       have U5 := U4.below k5 s4
       clear z0 z1 z2 z3
       obtain ⟨z0, z1, z2, z3⟩ := box2 U5.r
       clear hl))
  (try simp only [Exit.inBlock, Exit.then])
  refine bodyPost_ret (v := .tuple #[.agg #[.slice o1 n1 c1, .slice o2 n2 c2], .int .i64 E]) (by rw [results_cell_tmp rfl]; go_simp) rfl ?_
  exact ansP_box f1 f2 (by omega) (by omega) U5.bel

theorem monadP_go (so ao : Option Addr) (sn sc an ac : Nat) (sy ay : List Int) (w : World) (hsy : Rd w so sn sy) (hay : Rd w ao an ay) (my : mayA sy ay = 0) (k : Nat) (hk : k < 43) (hm : pMb k = true) (E : Int) (S A : List Int)
    (hl : ∀ V, Below w.heap.size w V → Calls Tryz.prog 36 #[.agg #[.slice so sn sc, .slice ao an ac], .int .i64 (pR k), .func (.func 37) #[.agg #[.int .i64 ((k : Int) + 1), .string (pS k), pM k, .int .i64 (pR k), pD k, .int .i64 (pL k), .int .i64 (pG k), .int .i64 (pI k), .bool (pH k), .bool (pC k)]] #[]] V fun e w' => AnsP V E S A e w') :
    Calls Tryz.prog 16 #[.int .i64 ((k : Int) + 1), .agg #[.slice so sn sc, .slice ao an ac]] w fun e w' => AnsP w E S A e w' := by
  have hr := rowOf_yes k hk
  rcases prKinds k hk with ⟨e1, b1, b2, G, e2⟩ | ⟨e2, b2, b1, F, e1⟩ | ⟨b1, b2, F, G, e1, e2⟩
  · rw [b1] at hm; exact absurd hm (by decide)
  · rw [e1, e2] at hr hl
    exact monadP_gon so ao sn sc an ac sy ay w hsy hay my k _ F 0 _ _ _ _ _ _ E S A hr hl
  · rw [e1, e2] at hr hl
    exact monadP_gof so ao sn sc an ac sy ay w hsy hay my k _ F G _ _ _ _ _ _ E S A hr hl
theorem monadP_val (so ao : Option Addr) (sn sc an ac : Nat) (sy ay : List Int) (w : World) (hsy : Rd w so sn sy) (hay : Rd w ao an ay) (my : mayA sy ay = 0) (k : Nat) (hk : k < 43) (hm : pMb k = false) :
    Calls Tryz.prog 16 #[.int .i64 ((k : Int) + 1), .agg #[.slice so sn sc, .slice ao an ac]] w fun e w' => AnsP w 16 [] [] e w' := by
  have hr := rowOf_yes k hk
  rcases prKinds k hk with ⟨e1, b1, b2, G, e2⟩ | ⟨e2, b2, b1, F, e1⟩ | ⟨b1, b2, F, G, e1, e2⟩
  · rw [e1, e2] at hr
    exact monadP_val0 so ao sn sc an ac sy ay w hsy hay my k _ 0 G _ _ _ _ _ _ hr
  · rw [b1] at hm; exact absurd hm (by decide)
  · rw [b1] at hm; exact absurd hm (by decide)

set_option maxHeartbeats 2000000 in
theorem dyadP_badx (xso xo : Option Addr) (xsn xsc xn xc : Nat) (so ao : Option Addr) (sn sc an ac : Nat) (sx ax sy ay : List Int) (w : World) (hsx : Rd w xso xsn sx) (hax : Rd w xo xn ax) (hsy : Rd w so sn sy) (hay : Rd w ao an ay) (mx : mayA sx ax ≠ 0) (op : Int) :
    Calls Tryz.prog 20 #[.int .i64 op, .agg #[.slice xso xsn xsc, .slice xo xn xc], .agg #[.slice so sn sc, .slice ao an ac]] w fun e w' => AnsP w 1 [] [] e w' := by
  have U0 := du_startZ w xso xsn xsc xo xn xc so sn sc ao an ac
  have s0 := U0.sz
  have cM1 := mayA_any xso xo xsn xsc xn xc sx ax _ (hsx.below U0.bel (Nat.le_refl _)) (hax.below U0.bel (Nat.le_refl _))
  have cM2 := fun V => mayA_any so ao sn sc an ac sy ay V
  have h0' : (mayA sx ax != 0) = true := by simpa using mx
  clear mx
  obtain ⟨x0, x1, _, _⟩ := box2 U0.x
  obtain ⟨y0, y1, _, _⟩ := box2 U0.y
  go_enter Tryz.func20, Tryz.ntmps20
  go_wp2_with (first
    | (go_at_call 13; (with_reducible refine cM1.mono ?_); rintro e w1 ⟨rfl, k1⟩
       have U1 := U0.below k1 s0
       have s1 := U1.sz
       clear x0 x1 y0 y1
       obtain ⟨x0, x1, _, _⟩ := box2 U1.x
       obtain ⟨y0, y1, _, _⟩ := box2 U1.y
       obtain ⟨z0, z1, z2, z3⟩ := box2 U1.r
       clear cM1))
  (try simp only [Exit.inBlock, Exit.then])
  refine bodyPost_ret (v := .tuple #[.agg #[.slice none 0 0, .slice none 0 0], .int .i64 1]) (by rw [results_cell_tmp rfl]; go_simp) rfl ?_
  exact ansP_no w 1 (below_set2 _ _ _ _ U1.bel (by omega) (Nat.le_refl _))

set_option maxHeartbeats 2000000 in
theorem dyadP_bady (xso xo : Option Addr) (xsn xsc xn xc : Nat) (so ao : Option Addr) (sn sc an ac : Nat) (sx ax sy ay : List Int) (w : World) (hsx : Rd w xso xsn sx) (hax : Rd w xo xn ax) (hsy : Rd w so sn sy) (hay : Rd w ao an ay) (mx : mayA sx ax = 0) (my : mayA sy ay ≠ 0) (op : Int) :
    Calls Tryz.prog 20 #[.int .i64 op, .agg #[.slice xso xsn xsc, .slice xo xn xc], .agg #[.slice so sn sc, .slice ao an ac]] w fun e w' => AnsP w 1 [] [] e w' := by
  have U0 := du_startZ w xso xsn xsc xo xn xc so sn sc ao an ac
  have s0 := U0.sz
  have cM1 := mayA_any xso xo xsn xsc xn xc sx ax _ (hsx.below U0.bel (Nat.le_refl _)) (hax.below U0.bel (Nat.le_refl _))
  have cM2 := fun V => mayA_any so ao sn sc an ac sy ay V
  rw [mx] at cM1
  have h0' : (mayA sy ay != 0) = true := by simpa using my
  clear my
  obtain ⟨x0, x1, _, _⟩ := box2 U0.x
  obtain ⟨y0, y1, _, _⟩ := box2 U0.y
  go_enter Tryz.func20, Tryz.ntmps20
  go_wp2_with (first
    | (go_at_call 13; (with_reducible refine cM1.mono ?_); rintro e w1 ⟨rfl, k1⟩
       have U1 := U0.below k1 s0
       have s1 := U1.sz
       clear x0 x1 y0 y1
       obtain ⟨x0, x1, _, _⟩ := box2 U1.x
       obtain ⟨y0, y1, _, _⟩ := box2 U1.y
       obtain ⟨z0, z1, z2, z3⟩ := box2 U1.r
       clear cM1)
    | (go_at_call 13; (with_reducible refine (cM2 w1 (hsy.below U1.bel (Nat.le_refl _)) (hay.below U1.bel (Nat.le_refl _))).mono ?_); rintro e w2 ⟨rfl, k2⟩
       have U2 := U1.below k2 s1
       have s2 := U2.sz
       clear x0 x1 y0 y1 z0 z1 z2 z3
       obtain ⟨x0, x1, _, _⟩ := box2 U2.x
       obtain ⟨y0, y1, _, _⟩ := box2 U2.y
       obtain ⟨z0, z1, z2, z3⟩ := box2 U2.r
       clear cM2))
  (try simp only [Exit.inBlock, Exit.then])
  refine bodyPost_ret (v := .tuple #[.agg #[.slice none 0 0, .slice none 0 0], .int .i64 1]) (by rw [results_cell_tmp rfl]; go_simp) rfl ?_
  exact ansP_no w 1 (below_set2 _ _ _ _ U2.bel (by omega) (Nat.le_refl _))

set_option maxHeartbeats 2000000 in
theorem dyadP_op (xso xo : Option Addr) (xsn xsc xn xc : Nat) (so ao : Option Addr) (sn sc an ac : Nat) (sx ax sy ay : List Int) (w : World) (hsx : Rd w xso xsn sx) (hax : Rd w xo xn ax) (hsy : Rd w so sn sy) (hay : Rd w ao an ay) (mx : mayA sx ax = 0) (my : mayA sy ay = 0) (op : Int) (ho : op < 1 ∨ 43 < op) :
    Calls Tryz.prog 20 #[.int .i64 op, .agg #[.slice xso xsn xsc, .slice xo xn xc], .agg #[.slice so sn sc, .slice ao an ac]] w fun e w' => AnsP w 1 [] [] e w' := by
  have U0 := du_startZ w xso xsn xsc xo xn xc so sn sc ao an ac
  have s0 := U0.sz
  have cM1 := mayA_any xso xo xsn xsc xn xc sx ax _ (hsx.below U0.bel (Nat.le_refl _)) (hax.below U0.bel (Nat.le_refl _))
  have cM2 := fun V => mayA_any so ao sn sc an ac sy ay V
  rw [mx] at cM1
  rw [my] at cM2
  have hr := fun W => rowOf_no op W ho
  clear ho
  obtain ⟨x0, x1, _, _⟩ := box2 U0.x
  obtain ⟨y0, y1, _, _⟩ := box2 U0.y
  go_enter Tryz.func20, Tryz.ntmps20
  go_wp2_with (first
    | (go_at_call 13; (with_reducible refine cM1.mono ?_); rintro e w1 ⟨rfl, k1⟩
       have U1 := U0.below k1 s0
       have s1 := U1.sz
       clear x0 x1 y0 y1
       obtain ⟨x0, x1, _, _⟩ := box2 U1.x
       obtain ⟨y0, y1, _, _⟩ := box2 U1.y
       obtain ⟨z0, z1, z2, z3⟩ := box2 U1.r
       clear cM1)
    | (go_at_call 13; (with_reducible refine (cM2 w1 (hsy.below U1.bel (Nat.le_refl _)) (hay.below U1.bel (Nat.le_refl _))).mono ?_); rintro e w2 ⟨rfl, k2⟩
       have U2 := U1.below k2 s1
       have s2 := U2.sz
       clear x0 x1 y0 y1 z0 z1 z2 z3
       obtain ⟨x0, x1, _, _⟩ := box2 U2.x
       obtain ⟨y0, y1, _, _⟩ := box2 U2.y
       obtain ⟨z0, z1, z2, z3⟩ := box2 U2.r
       clear cM2)
    | (go_at_call 26; (with_reducible refine (hr _).mono ?_); rintro e w3 ⟨rfl, k3⟩
       have U3 := U2.below k3 s2
       have s3 := U3.sz
       have U4 := U3.below (box_below w3 (.cells #[.int .i64 0, .string ⟨#[]⟩, .nilFunc, .int .i64 0, .nilFunc, .int .i64 0, .int .i64 0, .int .i64 0, .bool false, .bool false] 63)) s3
       have s4 := U4.sz
       clear x0 x1 y0 y1 z0 z1 z2 z3
       obtain ⟨x0, x1, _, _⟩ := box2 U4.x
       obtain ⟨y0, y1, _, _⟩ := box2 U4.y
       obtain ⟨z0, z1, z2, z3⟩ := box2 U4.r
       obtain ⟨⟨q0, q1, q2, q3, q4, q5, q6, q7, q8, q9⟩, _⟩ := bx10 (allocNew w3 (.cells #[.int .i64 0, .string ⟨#[]⟩, .nilFunc, .int .i64 0, .nilFunc, .int .i64 0, .int .i64 0, .int .i64 0, .bool false, .bool false] 63))
       clear hr))
  (try simp only [Exit.inBlock, Exit.then])
  refine bodyPost_ret (v := .tuple #[.agg #[.slice none 0 0, .slice none 0 0], .int .i64 1]) (by rw [results_cell_tmp rfl]; go_simp) rfl ?_
  exact ansP_no w 1 (below_set2 _ _ _ _ U4.bel (by omega) (Nat.le_refl _))

set_option maxHeartbeats 2000000 in
theorem dyadP_val0 (xso xo : Option Addr) (xsn xsc xn xc : Nat) (so ao : Option Addr) (sn sc an ac : Nat) (sx ax sy ay : List Int) (w : World) (hsx : Rd w xso xsn sx) (hax : Rd w xo xn ax) (hsy : Rd w so sn sy) (hay : Rd w ao an ay) (mx : mayA sx ax = 0) (my : mayA sy ay = 0) (k : Nat) (sp : ByteArray) (fm fd : FuncId) (r l g i : Int) (h c : Bool) (hr : ∀ W, Calls Tryz.prog 26 #[.int .i64 ((k : Int) + 1)] W fun e w' => e = .returned (.tuple #[.agg #[.int .i64 ((k : Int) + 1), .string sp, .func (.func fm) #[] #[], .int .i64 r, .nilFunc, .int .i64 l, .int .i64 g, .int .i64 i, .bool h, .bool c], .int .i64 0]) ∧ Below W.heap.size W w') :
    Calls Tryz.prog 20 #[.int .i64 ((k : Int) + 1), .agg #[.slice xso xsn xsc, .slice xo xn xc], .agg #[.slice so sn sc, .slice ao an ac]] w fun e w' => AnsP w 16 [] [] e w' := by
  have U0 := du_startZ w xso xsn xsc xo xn xc so sn sc ao an ac
  have s0 := U0.sz
  have cM1 := mayA_any xso xo xsn xsc xn xc sx ax _ (hsx.below U0.bel (Nat.le_refl _)) (hax.below U0.bel (Nat.le_refl _))
  have cM2 := fun V => mayA_any so ao sn sc an ac sy ay V
  rw [mx] at cM1
  rw [my] at cM2
  have e1 := fun V => nQ_eqN V default #[] #[]
  obtain ⟨x0, x1, _, _⟩ := box2 U0.x
  obtain ⟨y0, y1, _, _⟩ := box2 U0.y
  go_enter Tryz.func20, Tryz.ntmps20
  go_wp2_with (first
    | (go_at_call 13; (with_reducible refine cM1.mono ?_); rintro e w1 ⟨rfl, k1⟩
       have U1 := U0.below k1 s0
       have s1 := U1.sz
       clear x0 x1 y0 y1
       obtain ⟨x0, x1, _, _⟩ := box2 U1.x
       obtain ⟨y0, y1, _, _⟩ := box2 U1.y
       obtain ⟨z0, z1, z2, z3⟩ := box2 U1.r
       clear cM1)
    | (go_at_call 13; (with_reducible refine (cM2 w1 (hsy.below U1.bel (Nat.le_refl _)) (hay.below U1.bel (Nat.le_refl _))).mono ?_); rintro e w2 ⟨rfl, k2⟩
       have U2 := U1.below k2 s1
       have s2 := U2.sz
       clear x0 x1 y0 y1 z0 z1 z2 z3
       obtain ⟨x0, x1, _, _⟩ := box2 U2.x
       obtain ⟨y0, y1, _, _⟩ := box2 U2.y
       obtain ⟨z0, z1, z2, z3⟩ := box2 U2.r
       clear cM2)
    | (go_at_call 26; (with_reducible refine (hr _).mono ?_); rintro e w3 ⟨rfl, k3⟩
       have U3 := U2.below k3 s2
       have s3 := U3.sz
       have U4 := U3.below (box_below w3 (.cells #[.int .i64 ((k : Int) + 1), .string sp, .func (.func fm) #[] #[], .int .i64 r, .nilFunc, .int .i64 l, .int .i64 g, .int .i64 i, .bool h, .bool c] 63)) s3
       have s4 := U4.sz
       clear x0 x1 y0 y1 z0 z1 z2 z3
       obtain ⟨x0, x1, _, _⟩ := box2 U4.x
       obtain ⟨y0, y1, _, _⟩ := box2 U4.y
       obtain ⟨z0, z1, z2, z3⟩ := box2 U4.r
       obtain ⟨⟨q0, q1, q2, q3, q4, q5, q6, q7, q8, q9⟩, _⟩ := bx10 (allocNew w3 (.cells #[.int .i64 ((k : Int) + 1), .string sp, .func (.func fm) #[] #[], .int .i64 r, .nilFunc, .int .i64 l, .int .i64 g, .int .i64 i, .bool h, .bool c] 63))
       clear hr))
  (try simp only [Exit.inBlock, Exit.then])
  refine bodyPost_ret (v := .tuple #[.agg #[.slice none 0 0, .slice none 0 0], .int .i64 16]) (by rw [results_cell_tmp rfl]; go_simp) rfl ?_
  exact ansP_no w 16 (below_set2 _ _ _ _ U4.bel (by omega) (Nat.le_refl _))

set_option maxHeartbeats 2000000 in
theorem dyadP_gon (xso xo : Option Addr) (xsn xsc xn xc : Nat) (so ao : Option Addr) (sn sc an ac : Nat) (sx ax sy ay : List Int) (w : World) (hsx : Rd w xso xsn sx) (hax : Rd w xo xn ax) (hsy : Rd w so sn sy) (hay : Rd w ao an ay) (mx : mayA sx ax = 0) (my : mayA sy ay = 0) (k : Nat) (sp : ByteArray) (fm fd : FuncId) (r l g i : Int) (h c : Bool) (E : Int) (S A : List Int) (hr : ∀ W, Calls Tryz.prog 26 #[.int .i64 ((k : Int) + 1)] W fun e w' => e = .returned (.tuple #[.agg #[.int .i64 ((k : Int) + 1), .string sp, .nilFunc, .int .i64 r, .func (.func fd) #[] #[], .int .i64 l, .int .i64 g, .int .i64 i, .bool h, .bool c], .int .i64 0]) ∧ Below W.heap.size W w')
    (hl : ∀ V, Below w.heap.size w V → Calls Tryz.prog 43 #[.agg #[.slice xso xsn xsc, .slice xo xn xc], .agg #[.slice so sn sc, .slice ao an ac], .int .i64 l, .int .i64 g, .func (.func 44) #[.agg #[.int .i64 ((k : Int) + 1), .string sp, .nilFunc, .int .i64 r, .func (.func fd) #[] #[], .int .i64 l, .int .i64 g, .int .i64 i, .bool h, .bool c]] #[]] V fun e w' => AnsP V E S A e w') :
    Calls Tryz.prog 20 #[.int .i64 ((k : Int) + 1), .agg #[.slice xso xsn xsc, .slice xo xn xc], .agg #[.slice so sn sc, .slice ao an ac]] w fun e w' => AnsP w E S A e w' := by
  have U0 := du_startZ w xso xsn xsc xo xn xc so sn sc ao an ac
  have s0 := U0.sz
  have cM1 := mayA_any xso xo xsn xsc xn xc sx ax _ (hsx.below U0.bel (Nat.le_refl _)) (hax.below U0.bel (Nat.le_refl _))
  have cM2 := fun V => mayA_any so ao sn sc an ac sy ay V
  rw [mx] at cM1
  rw [my] at cM2
  have e1 := fun V => nQ_eqF V (.func fd) #[] #[]
  obtain ⟨x0, x1, _, _⟩ := box2 U0.x
  obtain ⟨y0, y1, _, _⟩ := box2 U0.y
  go_enter Tryz.func20, Tryz.ntmps20
  go_wp2_with (first
    | (go_at_call 13; (with_reducible refine cM1.mono ?_); rintro e w1 ⟨rfl, k1⟩
       have U1 := U0.below k1 s0
       have s1 := U1.sz
       clear x0 x1 y0 y1
       obtain ⟨x0, x1, _, _⟩ := box2 U1.x
       obtain ⟨y0, y1, _, _⟩ := box2 U1.y
       obtain ⟨z0, z1, z2, z3⟩ := box2 U1.r
       clear cM1)
    | (go_at_call 13; (with_reducible refine (cM2 w1 (hsy.below U1.bel (Nat.le_refl _)) (hay.below U1.bel (Nat.le_refl _))).mono ?_); rintro e w2 ⟨rfl, k2⟩
       have U2 := U1.below k2 s1
       have s2 := U2.sz
       clear x0 x1 y0 y1 z0 z1 z2 z3
       obtain ⟨x0, x1, _, _⟩ := box2 U2.x
       obtain ⟨y0, y1, _, _⟩ := box2 U2.y
       obtain ⟨z0, z1, z2, z3⟩ := box2 U2.r
       clear cM2)
    | (go_at_call 26; (with_reducible refine (hr _).mono ?_); rintro e w3 ⟨rfl, k3⟩
       have U3 := U2.below k3 s2
       have s3 := U3.sz
       have U4 := U3.below (box_below w3 (.cells #[.int .i64 ((k : Int) + 1), .string sp, .nilFunc, .int .i64 r, .func (.func fd) #[] #[], .int .i64 l, .int .i64 g, .int .i64 i, .bool h, .bool c] 63)) s3
       have s4 := U4.sz
       clear x0 x1 y0 y1 z0 z1 z2 z3
       obtain ⟨x0, x1, _, _⟩ := box2 U4.x
       obtain ⟨y0, y1, _, _⟩ := box2 U4.y
       obtain ⟨z0, z1, z2, z3⟩ := box2 U4.r
       obtain ⟨⟨q0, q1, q2, q3, q4, q5, q6, q7, q8, q9⟩, _⟩ := bx10 (allocNew w3 (.cells #[.int .i64 ((k : Int) + 1), .string sp, .nilFunc, .int .i64 r, .func (.func fd) #[] #[], .int .i64 l, .int .i64 g, .int .i64 i, .bool h, .bool c] 63))
       clear hr)
    | (go_at_call 43; (with_reducible refine (hl _ U4.bel).mono ?_); rintro e w5 ⟨o1, n1, c1, o2, n2, c2, rfl, f1, f2, k5⟩
       have U5 := U4.below k5 s4
       clear z0 z1 z2 z3
       obtain ⟨z0, z1, z2, z3⟩ := box2 U5.r
       clear hl))
  (try simp only [Exit.inBlock, Exit.then])
  refine bodyPost_ret (v := .tuple #[.agg #[.slice o1 n1 c1, .slice o2 n2 c2], .int .i64 E]) (by rw [results_cell_tmp rfl]; go_simp) rfl ?_
  exact ansP_box f1 f2 (by omega) (by omega) U5.bel

set_option maxHeartbeats 2000000 in
theorem dyadP_gof (xso xo : Option Addr) (xsn xsc xn xc : Nat) (so ao : Option Addr) (sn sc an ac : Nat) (sx ax sy ay : List Int) (w : World) (hsx : Rd w xso xsn sx) (hax : Rd w xo xn ax) (hsy : Rd w so sn sy) (hay : Rd w ao an ay) (mx : mayA sx ax = 0) (my : mayA sy ay = 0) (k : Nat) (sp : ByteArray) (fm fd : FuncId) (r l g i : Int) (h c : Bool) (E : Int) (S A : List Int) (hr : ∀ W, Calls Tryz.prog 26 #[.int .i64 ((k : Int) + 1)] W fun e w' => e = .returned (.tuple #[.agg #[.int .i64 ((k : Int) + 1), .string sp, .func (.func fm) #[] #[], .int .i64 r, .func (.func fd) #[] #[], .int .i64 l, .int .i64 g, .int .i64 i, .bool h, .bool c], .int .i64 0]) ∧ Below W.heap.size W w')
    (hl : ∀ V, Below w.heap.size w V → Calls Tryz.prog 43 #[.agg #[.slice xso xsn xsc, .slice xo xn xc], .agg #[.slice so sn sc, .slice ao an ac], .int .i64 l, .int .i64 g, .func (.func 44) #[.agg #[.int .i64 ((k : Int) + 1), .string sp, .func (.func fm) #[] #[], .int .i64 r, .func (.func fd) #[] #[], .int .i64 l, .int .i64 g, .int .i64 i, .bool h, .bool c]] #[]] V fun e w' => AnsP V E S A e w') :
    Calls Tryz.prog 20 #[.int .i64 ((k : Int) + 1), .agg #[.slice xso xsn xsc, .slice xo xn xc], .agg #[.slice so sn sc, .slice ao an ac]] w fun e w' => AnsP w E S A e w' := by
  have U0 := du_startZ w xso xsn xsc xo xn xc so sn sc ao an ac
  have s0 := U0.sz
  have cM1 := mayA_any xso xo xsn xsc xn xc sx ax _ (hsx.below U0.bel (Nat.le_refl _)) (hax.below U0.bel (Nat.le_refl _))
  have cM2 := fun V => mayA_any so ao sn sc an ac sy ay V
  rw [mx] at cM1
  rw [my] at cM2
  have e1 := fun V => nQ_eqF V (.func fd) #[] #[]
  obtain ⟨x0, x1, _, _⟩ := box2 U0.x
  obtain ⟨y0, y1, _, _⟩ := box2 U0.y
  go_enter Tryz.func20, Tryz.ntmps20
  go_wp2_with (first
    | (go_at_call 13; (with_reducible refine cM1.mono ?_); rintro e w1 ⟨rfl, k1⟩
       have U1 := U0.below k1 s0
       have s1 := U1.sz
       clear x0 x1 y0 y1
       obtain ⟨x0, x1, _, _⟩ := box2 U1.x
       obtain ⟨y0, y1, _, _⟩ := box2 U1.y
       obtain ⟨z0, z1, z2, z3⟩ := box2 U1.r
       clear cM1)
    | (go_at_call 13; (with_reducible refine (cM2 w1 (hsy.below U1.bel (Nat.le_refl _)) (hay.below U1.bel (Nat.le_refl _))).mono ?_); rintro e w2 ⟨rfl, k2⟩
       have U2 := U1.below k2 s1
       have s2 := U2.sz
       clear x0 x1 y0 y1 z0 z1 z2 z3
       obtain ⟨x0, x1, _, _⟩ := box2 U2.x
       obtain ⟨y0, y1, _, _⟩ := box2 U2.y
       obtain ⟨z0, z1, z2, z3⟩ := box2 U2.r
       clear cM2)
    | (go_at_call 26; (with_reducible refine (hr _).mono ?_); rintro e w3 ⟨rfl, k3⟩
       have U3 := U2.below k3 s2
       have s3 := U3.sz
       have U4 := U3.below (box_below w3 (.cells #[.int .i64 ((k : Int) + 1), .string sp, .func (.func fm) #[] #[], .int .i64 r, .func (.func fd) #[] #[], .int .i64 l, .int .i64 g, .int .i64 i, .bool h, .bool c] 63)) s3
       have s4 := U4.sz
       clear x0 x1 y0 y1 z0 z1 z2 z3
       obtain ⟨x0, x1, _, _⟩ := box2 U4.x
       obtain ⟨y0, y1, _, _⟩ := box2 U4.y
       obtain ⟨z0, z1, z2, z3⟩ := box2 U4.r
       obtain ⟨⟨q0, q1, q2, q3, q4, q5, q6, q7, q8, q9⟩, _⟩ := bx10 (allocNew w3 (.cells #[.int .i64 ((k : Int) + 1), .string sp, .func (.func fm) #[] #[], .int .i64 r, .func (.func fd) #[] #[], .int .i64 l, .int .i64 g, .int .i64 i, .bool h, .bool c] 63))
       clear hr)
    | (go_at_call 43; (with_reducible refine (hl _ U4.bel).mono ?_); rintro e w5 ⟨o1, n1, c1, o2, n2, c2, rfl, f1, f2, k5⟩
       have U5 := U4.below k5 s4
       clear z0 z1 z2 z3
       obtain ⟨z0, z1, z2, z3⟩ := box2 U5.r
       clear hl))
  (try simp only [Exit.inBlock, Exit.then])
  refine bodyPost_ret (v := .tuple #[.agg #[.slice o1 n1 c1, .slice o2 n2 c2], .int .i64 E]) (by rw [results_cell_tmp rfl]; go_simp) rfl ?_
  exact ansP_box f1 f2 (by omega) (by omega) U5.bel

theorem dyadP_go (xso xo : Option Addr) (xsn xsc xn xc : Nat) (so ao : Option Addr) (sn sc an ac : Nat) (sx ax sy ay : List Int) (w : World) (hsx : Rd w xso xsn sx) (hax : Rd w xo xn ax) (hsy : Rd w so sn sy) (hay : Rd w ao an ay) (mx : mayA sx ax = 0) (my : mayA sy ay = 0) (k : Nat) (hk : k < 43) (hm : pDb k = true) (E : Int) (S A : List Int)
    (hl : ∀ V, Below w.heap.size w V → Calls Tryz.prog 43 #[.agg #[.slice xso xsn xsc, .slice xo xn xc], .agg #[.slice so sn sc, .slice ao an ac], .int .i64 (pL k), .int .i64 (pG k), .func (.func 44) #[.agg #[.int .i64 ((k : Int) + 1), .string (pS k), pM k, .int .i64 (pR k), pD k, .int .i64 (pL k), .int .i64 (pG k), .int .i64 (pI k), .bool (pH k), .bool (pC k)]] #[]] V fun e w' => AnsP V E S A e w') :
    Calls Tryz.prog 20 #[.int .i64 ((k : Int) + 1), .agg #[.slice xso xsn xsc, .slice xo xn xc], .agg #[.slice so sn sc, .slice ao an ac]] w fun e w' => AnsP w E S A e w' := by
  have hr := rowOf_yes k hk
  rcases prKinds k hk with ⟨e1, b1, b2, G, e2⟩ | ⟨e2, b2, b1, F, e1⟩ | ⟨b1, b2, F, G, e1, e2⟩
  · rw [e1, e2] at hr hl
    exact dyadP_gon xso xo xsn xsc xn xc so ao sn sc an ac sx ax sy ay w hsx hax hsy hay mx my k _ 0 G _ _ _ _ _ _ E S A hr hl
  · rw [b2] at hm; exact absurd hm (by decide)
  · rw [e1, e2] at hr hl
    exact dyadP_gof xso xo xsn xsc xn xc so ao sn sc an ac sx ax sy ay w hsx hax hsy hay mx my k _ F G _ _ _ _ _ _ E S A hr hl
theorem dyadP_val (xso xo : Option Addr) (xsn xsc xn xc : Nat) (so ao : Option Addr) (sn sc an ac : Nat) (sx ax sy ay : List Int) (w : World) (hsx : Rd w xso xsn sx) (hax : Rd w xo xn ax) (hsy : Rd w so sn sy) (hay : Rd w ao an ay) (mx : mayA sx ax = 0) (my : mayA sy ay = 0) (k : Nat) (hk : k < 43) (hm : pDb k = false) :
    Calls Tryz.prog 20 #[.int .i64 ((k : Int) + 1), .agg #[.slice xso xsn xsc, .slice xo xn xc], .agg #[.slice so sn sc, .slice ao an ac]] w fun e w' => AnsP w 16 [] [] e w' := by
  have hr := rowOf_yes k hk
  rcases prKinds k hk with ⟨e1, b1, b2, G, e2⟩ | ⟨e2, b2, b1, F, e1⟩ | ⟨b1, b2, F, G, e1, e2⟩
  · rw [b2] at hm; exact absurd hm (by decide)
  · rw [e1, e2] at hr
    exact dyadP_val0 xso xo xsn xsc xn xc so ao sn sc an ac sx ax sy ay w hsx hax hsy hay mx my k _ F 0 _ _ _ _ _ _ hr
  · rw [b2] at hm; exact absurd hm (by decide)
end Go.Proofs.YtelcagfaflpolaaGreat
