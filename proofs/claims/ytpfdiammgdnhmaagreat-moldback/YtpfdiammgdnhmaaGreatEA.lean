
/- Contracts of package mold: the monads that MoldEnds asks. -/

import Derived.Test.YtpfdiammgdnhmaaGreatCC

namespace Go.Proofs.YtpfdiammgdnhmaaGreat

open Go.RowKit

set_option linter.unusedVariables false

/-- An item, where there is one. -/
theorem ioz_any (so ao : Option Addr) (sn sc an ac : Nat) (sh at' : List Int) (i : Int) (w : World) (hs : Rd w so sn sh) (ss : Sl so sn sc) (ha : Rd w ao an at') (sa : Sl ao an ac) (hi : itm sh at' ≠ 0) :
    Calls Tryz.prog 57 #[.agg #[.slice so sn sc, .slice ao an ac], .int .i64 i] w fun e w' => Ans w w.heap.size (itmS sh at' i) (itmA sh at' i) (itmE sh at' i) e w' := by
  have U0 := un_start w so sn sc ao an ac
  have s0 := U0.sz
  have cN := items_any so ao sn sc an ac sh at' _ (hs.below U0.bel (Nat.le_refl _)) (ha.below U0.bel (Nat.le_refl _))
  have cI := fun V (U : Un w V so sn sc ao an ac) => item_any so ao sn sc an ac sh at' i V (hs.below U.bel (Nat.le_refl _)) ss (ha.below U.bel (Nat.le_refl _)) sa
  have t0 : (itm sh at' == 0) = false := by simpa using hi
  obtain ⟨x0, x1, _⟩ := U0.all
  clear hi
  go_enter Tryz.func57, Tryz.ntmps57
  go_wp2_with (first
    | (go_at_call 53; (with_reducible refine cN.mono ?_); rintro e w1 ⟨rfl, k1⟩; have U1 := U0.below k1 s0; have s1 := U1.sz; obtain ⟨y0, y1, _⟩ := U1.all)
    | (go_at_call 85; (with_reducible refine (cI w1 U1).mono ?_); rintro e w5 ⟨o1, n1, c1, o2, n2, c2, rfl, f1, f2, ap, k5⟩; have U5 := U1.below k5 s1; have s5 := U5.sz; obtain ⟨u5, v5, hr5⟩ := U5.r; obtain ⟨z0, z1, z2, z3⟩ := box2 hr5))
  (try simp only [Exit.inBlock, Exit.then])
  refine bodyPost_ret (v := .tuple #[.agg #[.slice o1 n1 c1, .slice o2 n2 c2], .int .i64 (itmE sh at' i)]) (by rw [results_cell_tmp rfl]; go_simp) rfl ?_
  exact ⟨o1, n1, c1, o2, n2, c2, rfl, (ft_set (w := w) f1 (by omega) _ _).mono (by omega), (ft_set (w := w) f2 (by omega) _ _).mono (by omega), below_set2 _ _ _ _ U5.bel (by omega) (Nat.le_refl _)⟩

theorem first_any (so ao : Option Addr) (sn sc an ac : Nat) (sh at' : List Int) (w : World) (hs : Rd w so sn sh) (ss : Sl so sn sc) (ha : Rd w ao an at') (sa : Sl ao an ac) (hi : itm sh at' ≠ 0) :
    Calls Tryz.prog 35 #[.agg #[.slice so sn sc, .slice ao an ac]] w fun e w' => Ans w w.heap.size (itmS sh at' 0) (itmA sh at' 0) (itmE sh at' 0) e w' := by
  have U0 := un_start w so sn sc ao an ac
  have s0 := U0.sz
  have cI := ioz_any so ao sn sc an ac sh at' 0 _ (hs.below U0.bel (Nat.le_refl _)) ss (ha.below U0.bel (Nat.le_refl _)) sa hi
  obtain ⟨x0, x1, _⟩ := U0.all
  clear hi
  go_enter Tryz.func35, Tryz.ntmps35
  go_wp2_with (go_at_call 57; (with_reducible refine cI.mono ?_); rintro e w5 ⟨o1, n1, c1, o2, n2, c2, rfl, f1, f2, k5⟩; have U5 := U0.below k5 s0; have s5 := U5.sz; obtain ⟨u5, v5, hr5⟩ := U5.r; obtain ⟨z0, z1, z2, z3⟩ := box2 hr5)
  (try simp only [Exit.inBlock, Exit.then])
  refine bodyPost_ret (v := .tuple #[.agg #[.slice o1 n1 c1, .slice o2 n2 c2], .int .i64 (itmE sh at' 0)]) (by rw [results_cell_tmp rfl]; go_simp) rfl ?_
  exact ⟨o1, n1, c1, o2, n2, c2, rfl, (ft_set (w := w) f1 (by omega) _ _).mono (by omega), (ft_set (w := w) f2 (by omega) _ _).mono (by omega), below_set2 _ _ _ _ U5.bel (by omega) (Nat.le_refl _)⟩

theorem last_any (so ao : Option Addr) (sn sc an ac : Nat) (sh at' : List Int) (w : World) (hs : Rd w so sn sh) (ss : Sl so sn sc) (ha : Rd w ao an at') (sa : Sl ao an ac) (hi : itm sh at' ≠ 0) :
    Calls Tryz.prog 36 #[.agg #[.slice so sn sc, .slice ao an ac]] w fun e w' => Ans w w.heap.size (itmS sh at' (-1)) (itmA sh at' (-1)) (itmE sh at' (-1)) e w' := by
  have U0 := un_start w so sn sc ao an ac
  have s0 := U0.sz
  have cI := ioz_any so ao sn sc an ac sh at' (-1) _ (hs.below U0.bel (Nat.le_refl _)) ss (ha.below U0.bel (Nat.le_refl _)) sa hi
  obtain ⟨x0, x1, _⟩ := U0.all
  clear hi
  go_enter Tryz.func36, Tryz.ntmps36
  go_wp2_with (go_at_call 57; (with_reducible refine cI.mono ?_); rintro e w5 ⟨o1, n1, c1, o2, n2, c2, rfl, f1, f2, k5⟩; have U5 := U0.below k5 s0; have s5 := U5.sz; obtain ⟨u5, v5, hr5⟩ := U5.r; obtain ⟨z0, z1, z2, z3⟩ := box2 hr5)
  (try simp only [Exit.inBlock, Exit.then])
  refine bodyPost_ret (v := .tuple #[.agg #[.slice o1 n1 c1, .slice o2 n2 c2], .int .i64 (itmE sh at' (-1))]) (by rw [results_cell_tmp rfl]; go_simp) rfl ?_
  exact ⟨o1, n1, c1, o2, n2, c2, rfl, (ft_set (w := w) f1 (by omega) _ _).mono (by omega), (ft_set (w := w) f2 (by omega) _ _).mono (by omega), below_set2 _ _ _ _ U5.bel (by omega) (Nat.le_refl _)⟩

theorem behead_any (so ao : Option Addr) (sn sc an ac : Nat) (sh at' : List Int) (w : World) (hs : Rd w so sn sh) (ss : Sl so sn sc) (ha : Rd w ao an at') (sa : Sl ao an ac) (t : Int) (hi : itm sh at' = t) (h1 : 1 ≤ t) (h2 : t ≤ 4096) :
    Calls Tryz.prog 37 #[.agg #[.slice so sn sc, .slice ao an ac]] w fun e w' => Ans w w.heap.size (prtS sh at' 1 (t - 1)) (prtA sh at' 1 (t - 1)) (prtE sh at' 1 (t - 1)) e w' := by
  have U0 := un_start w so sn sc ao an ac
  have s0 := U0.sz
  have cN := items_any so ao sn sc an ac sh at' _ (hs.below U0.bel (Nat.le_refl _)) (ha.below U0.bel (Nat.le_refl _))
  rw [hi] at cN
  have cP : ∀ V m, m = t - 1 → Un w V so sn sc ao an ac → Calls Tryz.prog 58 #[.agg #[.slice so sn sc, .slice ao an ac], .int .i64 1, .int .i64 m] V fun e w' => Ans V V.heap.size (prtS sh at' 1 (t - 1)) (prtA sh at' 1 (t - 1)) (prtE sh at' 1 (t - 1)) e w' := by
    rintro V m rfl U
    exact part_any so ao sn sc an ac sh at' 1 (t - 1) V (hs.below U.bel (Nat.le_refl _)) ss (ha.below U.bel (Nat.le_refl _)) sa (by omega) (by omega) (by omega) (by omega)
  have w1 : IntKind.i64.wrap (t - 1) = t - 1 := wrapIn _ (by omega)
  obtain ⟨x0, x1, _⟩ := U0.all
  go_enter Tryz.func37, Tryz.ntmps37
  go_wp2_with (first
    | (go_at_call 53; (with_reducible refine cN.mono ?_); rintro e w1 ⟨rfl, k1⟩; have U1 := U0.below k1 s0; have s1 := U1.sz; obtain ⟨y0, y1, _⟩ := U1.all)
    | (go_at_call 58; (with_reducible refine (cP w1 _ (by omega) U1).mono ?_); rintro e w5 ⟨o1, n1, c1, o2, n2, c2, rfl, f1, f2, k5⟩; have U5 := U1.below k5 s1; have s5 := U5.sz; obtain ⟨u5, v5, hr5⟩ := U5.r; obtain ⟨z0, z1, z2, z3⟩ := box2 hr5))
  all_goals
    (try simp only [Exit.inBlock, Exit.then])
    refine bodyPost_ret (v := .tuple #[.agg #[.slice o1 n1 c1, .slice o2 n2 c2], .int .i64 (prtE sh at' 1 (t - 1))]) (by rw [results_cell_tmp rfl]; go_simp) rfl ?_
    exact ⟨o1, n1, c1, o2, n2, c2, rfl, (ft_set (w := w) f1 (by omega) _ _).mono (by omega), (ft_set (w := w) f2 (by omega) _ _).mono (by omega), below_set2 _ _ _ _ U5.bel (by omega) (Nat.le_refl _)⟩

set_option maxHeartbeats 2000000 in
theorem curtail_any (so ao : Option Addr) (sn sc an ac : Nat) (sh at' : List Int) (w : World) (hs : Rd w so sn sh) (ss : Sl so sn sc) (ha : Rd w ao an at') (sa : Sl ao an ac) (t : Int) (hi : itm sh at' = t) (h1 : 1 ≤ t) (h2 : t ≤ 4096) :
    Calls Tryz.prog 38 #[.agg #[.slice so sn sc, .slice ao an ac]] w fun e w' => Ans w w.heap.size (prtS sh at' 0 (t - 1)) (prtA sh at' 0 (t - 1)) (prtE sh at' 0 (t - 1)) e w' := by
  have U0 := un_start w so sn sc ao an ac
  have U1 := U0.drew
  have s1 := U1.sz
  have cN := items_any so ao sn sc an ac sh at' _ (hs.below U1.bel (Nat.le_refl _)) (ha.below U1.bel (Nat.le_refl _))
  rw [hi] at cN
  have cP : ∀ V m, m = t - 1 → Un w V so sn sc ao an ac → Calls Tryz.prog 58 #[.agg #[.slice so sn sc, .slice ao an ac], .int .i64 0, .int .i64 m] V fun e w' => Ans V V.heap.size (prtS sh at' 0 (t - 1)) (prtA sh at' 0 (t - 1)) (prtE sh at' 0 (t - 1)) e w' := by
    rintro V m rfl U
    exact part_any so ao sn sc an ac sh at' 0 (t - 1) V (hs.below U.bel (Nat.le_refl _)) ss (ha.below U.bel (Nat.le_refl _)) sa (by omega) (by omega) (by omega) (by omega)
  have w1 : IntKind.i64.wrap (t - 1) = t - 1 := wrapIn _ (by omega)
  obtain ⟨x0, x1, _⟩ := U0.all
  by_cases c : 1 < t
  all_goals
    go_enter Tryz.func38, Tryz.ntmps38
    go_wp2
    go_region_held3 (fun V => V.cell? ⟨w.heap.size, 0, none⟩ = some (.slice so sn sc) ∧ V.cell? ⟨w.heap.size, 1, none⟩ = some (.slice ao an ac) ∧ Un w V so sn sc ao an ac) (first | exact Un.all (by assumption) | exact Un.all (Un.drew (by assumption)) | exact Un.all (Un.set (by assumption) _ _))
      (first
        | (go_at_call 53; (with_reducible refine cN.mono ?_); rintro e w4 ⟨rfl, k4⟩; have U4 := U1.below k4 s1; have s4 := U4.sz)
        | (go_at_call 58; (with_reducible refine (cP w4 _ (by omega) U4).mono ?_); rintro e w5 ⟨o1, n1, c1, o2, n2, c2, rfl, f1, f2, k5⟩; have U5 := U4.below k5 s4; have s5 := U5.sz; obtain ⟨u5, v5, hr5⟩ := U5.r; obtain ⟨z0, z1, z2, z3⟩ := box2 hr5))
    go_wp2
    (try simp only [Exit.inBlock, Exit.then])
    refine bodyPost_ret (v := .tuple #[.agg #[.slice o1 n1 c1, .slice o2 n2 c2], .int .i64 (prtE sh at' 0 (t - 1))]) (by rw [results_cell_tmp rfl]; go_simp) rfl ?_
    exact ⟨o1, n1, c1, o2, n2, c2, rfl, (ft_set (w := w) f1 (by omega) _ _).mono (by omega), (ft_set (w := w) f2 (by omega) _ _).mono (by omega), below_set2 _ _ _ _ U5.bel (by omega) (Nat.le_refl _)⟩

theorem countItems_any (so ao : Option Addr) (sn sc an ac : Nat) (sh at' : List Int) (w : World) (hs : Rd w so sn sh) (ha : Rd w ao an at') (t : Int) (hi : itm sh at' = t) (h1 : 0 ≤ t) (h2 : t ≤ 4096) :
    Calls Tryz.prog 30 #[.agg #[.slice so sn sc, .slice ao an ac]] w fun e w' => Ans w w.heap.size [] [t] 0 e w' := by
  have U0 := un_start w so sn sc ao an ac
  have s0 := U0.sz
  have cN := items_any so ao sn sc an ac sh at' _ (hs.below U0.bel (Nat.le_refl _)) (ha.below U0.bel (Nat.le_refl _))
  rw [hi] at cN
  have cS := fun V => scalar_any t V (by omega) (by omega)
  obtain ⟨x0, x1, _⟩ := U0.all
  go_enter Tryz.func30, Tryz.ntmps30
  go_wp2_with (first
    | (go_at_call 53; (with_reducible refine cN.mono ?_); rintro e w1 ⟨rfl, k1⟩; have U1 := U0.below k1 s0; have s1 := U1.sz)
    | (go_at_call 52; (with_reducible refine (cS w1).mono ?_); rintro e w5 ⟨o2, c2, rfl, f2, k5⟩; have U5 := U1.below k5 s1; have s5 := U5.sz; obtain ⟨u5, v5, hr5⟩ := U5.r; obtain ⟨z0, z1, z2, z3⟩ := box2 hr5))
  (try simp only [Exit.inBlock, Exit.then])
  refine bodyPost_ret (v := .tuple #[.agg #[.slice none 0 0, .slice o2 1 c2], .int .i64 0]) (by rw [results_cell_tmp rfl]; go_simp) rfl ?_
  exact ⟨none, 0, 0, o2, 1, c2, rfl, Ft.nil _ _ _, (ft_set (w := w) f2 (by omega) _ _).mono (by omega), below_set2 _ _ _ _ U5.bel (by omega) (Nat.le_refl _)⟩

set_option maxHeartbeats 2000000 in
theorem monad_tally (so ao : Option Addr) (sn sc an ac : Nat) (sy ay S A : List Int) (E : Int) (w : World) (hsy : Rd w so sn sy) (hay : Rd w ao an ay) (my : mayA sy ay = 0)
    (hc : ∀ V, Below w.heap.size w V → Calls Tryz.prog 30 #[.agg #[.slice so sn sc, .slice ao an ac]] V fun e w' => Ans V V.heap.size S A E e w') :
    Calls Tryz.prog 10 #[.int .i64 22, .agg #[.slice so sn sc, .slice ao an ac]] w fun e w' => Ans w w.heap.size S A E e w' := by
  have U0 := un_start w so sn sc ao an ac
  have s0 := U0.sz
  have cM1 := mayA_any so ao sn sc an ac sy ay _ (hsy.below U0.bel (Nat.le_refl _)) (hay.below U0.bel (Nat.le_refl _))
  rw [my] at cM1
  have cD := fun V => monadOf_yes 22 0 V (by omega) rfl (by intro j hj; match j, hj with  | _, h => omega)
  rw [show mFnN 0 = 30 from rfl] at cD
  obtain ⟨x0, x1, _⟩ := U0.all
  clear my
  go_enter Tryz.func10, Tryz.ntmps10
  go_wp2_with (first
    | (go_at_call 23; (with_reducible refine cM1.mono ?_); rintro e w1 ⟨rfl, k1⟩; have U1 := U0.below k1 s0; have s1 := U1.sz)
    | (go_at_call 24; (with_reducible refine (cD w1).mono ?_); rintro e w3 ⟨rfl, k3⟩; have U3 := U1.below k3 s1; have s3 := U3.sz; have U4 := U3.below (box_below w3 (.cells #[.int .i64 22, .func (.func 30) #[] #[]] 52)) s3; obtain ⟨v0, v1, _⟩ := U4.all)
    | (go_at_call 30; (with_reducible refine (hc _ U4.bel).mono ?_); rintro e w5 ⟨o1, n1, c1, o2, n2, c2, rfl, f1, f2, k5⟩; have U5 := U4.below k5 U4.sz; obtain ⟨u5, v5, hr5⟩ := U5.r; obtain ⟨z0, z1, z2, z3⟩ := box2 hr5))
  (try simp only [Exit.inBlock, Exit.then])
  refine bodyPost_ret (v := .tuple #[.agg #[.slice o1 n1 c1, .slice o2 n2 c2], .int .i64 E]) (by rw [results_cell_tmp rfl]; go_simp) rfl ?_
  exact ⟨o1, n1, c1, o2, n2, c2, rfl, (ft_set (w := w) f1 (by simp; omega) _ _).mono (by simp; omega), (ft_set (w := w) f2 (by simp; omega) _ _).mono (by simp; omega), below_set2 _ _ _ _ U5.bel (by omega) (Nat.le_refl _)⟩

set_option maxHeartbeats 2000000 in
theorem monad_item (so ao : Option Addr) (sn sc an ac : Nat) (sy ay S A : List Int) (E : Int) (w : World) (hsy : Rd w so sn sy) (hay : Rd w ao an ay) (my : mayA sy ay = 0)
    (hc : ∀ V, Below w.heap.size w V → Calls Tryz.prog 34 #[.agg #[.slice so sn sc, .slice ao an ac]] V fun e w' => Ans V V.heap.size S A E e w') :
    Calls Tryz.prog 10 #[.int .i64 26, .agg #[.slice so sn sc, .slice ao an ac]] w fun e w' => Ans w w.heap.size S A E e w' := by
  have U0 := un_start w so sn sc ao an ac
  have s0 := U0.sz
  have cM1 := mayA_any so ao sn sc an ac sy ay _ (hsy.below U0.bel (Nat.le_refl _)) (hay.below U0.bel (Nat.le_refl _))
  rw [my] at cM1
  have cD := fun V => monadOf_yes 26 4 V (by omega) rfl (by intro j hj; match j, hj with | 0, _ => exact (by decide : mOp 0 ≠ 26) | 1, _ => exact (by decide : mOp 1 ≠ 26) | 2, _ => exact (by decide : mOp 2 ≠ 26) | 3, _ => exact (by decide : mOp 3 ≠ 26))
  rw [show mFnN 4 = 34 from rfl] at cD
  obtain ⟨x0, x1, _⟩ := U0.all
  clear my
  go_enter Tryz.func10, Tryz.ntmps10
  go_wp2_with (first
    | (go_at_call 23; (with_reducible refine cM1.mono ?_); rintro e w1 ⟨rfl, k1⟩; have U1 := U0.below k1 s0; have s1 := U1.sz)
    | (go_at_call 24; (with_reducible refine (cD w1).mono ?_); rintro e w3 ⟨rfl, k3⟩; have U3 := U1.below k3 s1; have s3 := U3.sz; have U4 := U3.below (box_below w3 (.cells #[.int .i64 26, .func (.func 34) #[] #[]] 52)) s3; obtain ⟨v0, v1, _⟩ := U4.all)
    | (go_at_call 34; (with_reducible refine (hc _ U4.bel).mono ?_); rintro e w5 ⟨o1, n1, c1, o2, n2, c2, rfl, f1, f2, k5⟩; have U5 := U4.below k5 U4.sz; obtain ⟨u5, v5, hr5⟩ := U5.r; obtain ⟨z0, z1, z2, z3⟩ := box2 hr5))
  (try simp only [Exit.inBlock, Exit.then])
  refine bodyPost_ret (v := .tuple #[.agg #[.slice o1 n1 c1, .slice o2 n2 c2], .int .i64 E]) (by rw [results_cell_tmp rfl]; go_simp) rfl ?_
  exact ⟨o1, n1, c1, o2, n2, c2, rfl, (ft_set (w := w) f1 (by simp; omega) _ _).mono (by simp; omega), (ft_set (w := w) f2 (by simp; omega) _ _).mono (by simp; omega), below_set2 _ _ _ _ U5.bel (by omega) (Nat.le_refl _)⟩

set_option maxHeartbeats 2000000 in
theorem monad_take (so ao : Option Addr) (sn sc an ac : Nat) (sy ay S A : List Int) (E : Int) (w : World) (hsy : Rd w so sn sy) (hay : Rd w ao an ay) (my : mayA sy ay = 0)
    (hc : ∀ V, Below w.heap.size w V → Calls Tryz.prog 35 #[.agg #[.slice so sn sc, .slice ao an ac]] V fun e w' => Ans V V.heap.size S A E e w') :
    Calls Tryz.prog 10 #[.int .i64 28, .agg #[.slice so sn sc, .slice ao an ac]] w fun e w' => Ans w w.heap.size S A E e w' := by
  have U0 := un_start w so sn sc ao an ac
  have s0 := U0.sz
  have cM1 := mayA_any so ao sn sc an ac sy ay _ (hsy.below U0.bel (Nat.le_refl _)) (hay.below U0.bel (Nat.le_refl _))
  rw [my] at cM1
  have cD := fun V => monadOf_yes 28 5 V (by omega) rfl (by intro j hj; match j, hj with | 0, _ => exact (by decide : mOp 0 ≠ 28) | 1, _ => exact (by decide : mOp 1 ≠ 28) | 2, _ => exact (by decide : mOp 2 ≠ 28) | 3, _ => exact (by decide : mOp 3 ≠ 28) | 4, _ => exact (by decide : mOp 4 ≠ 28))
  rw [show mFnN 5 = 35 from rfl] at cD
  obtain ⟨x0, x1, _⟩ := U0.all
  clear my
  go_enter Tryz.func10, Tryz.ntmps10
  go_wp2_with (first
    | (go_at_call 23; (with_reducible refine cM1.mono ?_); rintro e w1 ⟨rfl, k1⟩; have U1 := U0.below k1 s0; have s1 := U1.sz)
    | (go_at_call 24; (with_reducible refine (cD w1).mono ?_); rintro e w3 ⟨rfl, k3⟩; have U3 := U1.below k3 s1; have s3 := U3.sz; have U4 := U3.below (box_below w3 (.cells #[.int .i64 28, .func (.func 35) #[] #[]] 52)) s3; obtain ⟨v0, v1, _⟩ := U4.all)
    | (go_at_call 35; (with_reducible refine (hc _ U4.bel).mono ?_); rintro e w5 ⟨o1, n1, c1, o2, n2, c2, rfl, f1, f2, k5⟩; have U5 := U4.below k5 U4.sz; obtain ⟨u5, v5, hr5⟩ := U5.r; obtain ⟨z0, z1, z2, z3⟩ := box2 hr5))
  (try simp only [Exit.inBlock, Exit.then])
  refine bodyPost_ret (v := .tuple #[.agg #[.slice o1 n1 c1, .slice o2 n2 c2], .int .i64 E]) (by rw [results_cell_tmp rfl]; go_simp) rfl ?_
  exact ⟨o1, n1, c1, o2, n2, c2, rfl, (ft_set (w := w) f1 (by simp; omega) _ _).mono (by simp; omega), (ft_set (w := w) f2 (by simp; omega) _ _).mono (by simp; omega), below_set2 _ _ _ _ U5.bel (by omega) (Nat.le_refl _)⟩

set_option maxHeartbeats 2000000 in
theorem monad_tail (so ao : Option Addr) (sn sc an ac : Nat) (sy ay S A : List Int) (E : Int) (w : World) (hsy : Rd w so sn sy) (hay : Rd w ao an ay) (my : mayA sy ay = 0)
    (hc : ∀ V, Below w.heap.size w V → Calls Tryz.prog 36 #[.agg #[.slice so sn sc, .slice ao an ac]] V fun e w' => Ans V V.heap.size S A E e w') :
    Calls Tryz.prog 10 #[.int .i64 30, .agg #[.slice so sn sc, .slice ao an ac]] w fun e w' => Ans w w.heap.size S A E e w' := by
  have U0 := un_start w so sn sc ao an ac
  have s0 := U0.sz
  have cM1 := mayA_any so ao sn sc an ac sy ay _ (hsy.below U0.bel (Nat.le_refl _)) (hay.below U0.bel (Nat.le_refl _))
  rw [my] at cM1
  have cD := fun V => monadOf_yes 30 6 V (by omega) rfl (by intro j hj; match j, hj with | 0, _ => exact (by decide : mOp 0 ≠ 30) | 1, _ => exact (by decide : mOp 1 ≠ 30) | 2, _ => exact (by decide : mOp 2 ≠ 30) | 3, _ => exact (by decide : mOp 3 ≠ 30) | 4, _ => exact (by decide : mOp 4 ≠ 30) | 5, _ => exact (by decide : mOp 5 ≠ 30))
  rw [show mFnN 6 = 36 from rfl] at cD
  obtain ⟨x0, x1, _⟩ := U0.all
  clear my
  go_enter Tryz.func10, Tryz.ntmps10
  go_wp2_with (first
    | (go_at_call 23; (with_reducible refine cM1.mono ?_); rintro e w1 ⟨rfl, k1⟩; have U1 := U0.below k1 s0; have s1 := U1.sz)
    | (go_at_call 24; (with_reducible refine (cD w1).mono ?_); rintro e w3 ⟨rfl, k3⟩; have U3 := U1.below k3 s1; have s3 := U3.sz; have U4 := U3.below (box_below w3 (.cells #[.int .i64 30, .func (.func 36) #[] #[]] 52)) s3; obtain ⟨v0, v1, _⟩ := U4.all)
    | (go_at_call 36; (with_reducible refine (hc _ U4.bel).mono ?_); rintro e w5 ⟨o1, n1, c1, o2, n2, c2, rfl, f1, f2, k5⟩; have U5 := U4.below k5 U4.sz; obtain ⟨u5, v5, hr5⟩ := U5.r; obtain ⟨z0, z1, z2, z3⟩ := box2 hr5))
  (try simp only [Exit.inBlock, Exit.then])
  refine bodyPost_ret (v := .tuple #[.agg #[.slice o1 n1 c1, .slice o2 n2 c2], .int .i64 E]) (by rw [results_cell_tmp rfl]; go_simp) rfl ?_
  exact ⟨o1, n1, c1, o2, n2, c2, rfl, (ft_set (w := w) f1 (by simp; omega) _ _).mono (by simp; omega), (ft_set (w := w) f2 (by simp; omega) _ _).mono (by simp; omega), below_set2 _ _ _ _ U5.bel (by omega) (Nat.le_refl _)⟩

set_option maxHeartbeats 2000000 in
theorem monad_drop (so ao : Option Addr) (sn sc an ac : Nat) (sy ay S A : List Int) (E : Int) (w : World) (hsy : Rd w so sn sy) (hay : Rd w ao an ay) (my : mayA sy ay = 0)
    (hc : ∀ V, Below w.heap.size w V → Calls Tryz.prog 37 #[.agg #[.slice so sn sc, .slice ao an ac]] V fun e w' => Ans V V.heap.size S A E e w') :
    Calls Tryz.prog 10 #[.int .i64 29, .agg #[.slice so sn sc, .slice ao an ac]] w fun e w' => Ans w w.heap.size S A E e w' := by
  have U0 := un_start w so sn sc ao an ac
  have s0 := U0.sz
  have cM1 := mayA_any so ao sn sc an ac sy ay _ (hsy.below U0.bel (Nat.le_refl _)) (hay.below U0.bel (Nat.le_refl _))
  rw [my] at cM1
  have cD := fun V => monadOf_yes 29 7 V (by omega) rfl (by intro j hj; match j, hj with | 0, _ => exact (by decide : mOp 0 ≠ 29) | 1, _ => exact (by decide : mOp 1 ≠ 29) | 2, _ => exact (by decide : mOp 2 ≠ 29) | 3, _ => exact (by decide : mOp 3 ≠ 29) | 4, _ => exact (by decide : mOp 4 ≠ 29) | 5, _ => exact (by decide : mOp 5 ≠ 29) | 6, _ => exact (by decide : mOp 6 ≠ 29))
  rw [show mFnN 7 = 37 from rfl] at cD
  obtain ⟨x0, x1, _⟩ := U0.all
  clear my
  go_enter Tryz.func10, Tryz.ntmps10
  go_wp2_with (first
    | (go_at_call 23; (with_reducible refine cM1.mono ?_); rintro e w1 ⟨rfl, k1⟩; have U1 := U0.below k1 s0; have s1 := U1.sz)
    | (go_at_call 24; (with_reducible refine (cD w1).mono ?_); rintro e w3 ⟨rfl, k3⟩; have U3 := U1.below k3 s1; have s3 := U3.sz; have U4 := U3.below (box_below w3 (.cells #[.int .i64 29, .func (.func 37) #[] #[]] 52)) s3; obtain ⟨v0, v1, _⟩ := U4.all)
    | (go_at_call 37; (with_reducible refine (hc _ U4.bel).mono ?_); rintro e w5 ⟨o1, n1, c1, o2, n2, c2, rfl, f1, f2, k5⟩; have U5 := U4.below k5 U4.sz; obtain ⟨u5, v5, hr5⟩ := U5.r; obtain ⟨z0, z1, z2, z3⟩ := box2 hr5))
  (try simp only [Exit.inBlock, Exit.then])
  refine bodyPost_ret (v := .tuple #[.agg #[.slice o1 n1 c1, .slice o2 n2 c2], .int .i64 E]) (by rw [results_cell_tmp rfl]; go_simp) rfl ?_
  exact ⟨o1, n1, c1, o2, n2, c2, rfl, (ft_set (w := w) f1 (by simp; omega) _ _).mono (by simp; omega), (ft_set (w := w) f2 (by simp; omega) _ _).mono (by simp; omega), below_set2 _ _ _ _ U5.bel (by omega) (Nat.le_refl _)⟩

set_option maxHeartbeats 2000000 in
theorem monad_curt (so ao : Option Addr) (sn sc an ac : Nat) (sy ay S A : List Int) (E : Int) (w : World) (hsy : Rd w so sn sy) (hay : Rd w ao an ay) (my : mayA sy ay = 0)
    (hc : ∀ V, Below w.heap.size w V → Calls Tryz.prog 38 #[.agg #[.slice so sn sc, .slice ao an ac]] V fun e w' => Ans V V.heap.size S A E e w') :
    Calls Tryz.prog 10 #[.int .i64 31, .agg #[.slice so sn sc, .slice ao an ac]] w fun e w' => Ans w w.heap.size S A E e w' := by
  have U0 := un_start w so sn sc ao an ac
  have s0 := U0.sz
  have cM1 := mayA_any so ao sn sc an ac sy ay _ (hsy.below U0.bel (Nat.le_refl _)) (hay.below U0.bel (Nat.le_refl _))
  rw [my] at cM1
  have cD := fun V => monadOf_yes 31 8 V (by omega) rfl (by intro j hj; match j, hj with | 0, _ => exact (by decide : mOp 0 ≠ 31) | 1, _ => exact (by decide : mOp 1 ≠ 31) | 2, _ => exact (by decide : mOp 2 ≠ 31) | 3, _ => exact (by decide : mOp 3 ≠ 31) | 4, _ => exact (by decide : mOp 4 ≠ 31) | 5, _ => exact (by decide : mOp 5 ≠ 31) | 6, _ => exact (by decide : mOp 6 ≠ 31) | 7, _ => exact (by decide : mOp 7 ≠ 31))
  rw [show mFnN 8 = 38 from rfl] at cD
  obtain ⟨x0, x1, _⟩ := U0.all
  clear my
  go_enter Tryz.func10, Tryz.ntmps10
  go_wp2_with (first
    | (go_at_call 23; (with_reducible refine cM1.mono ?_); rintro e w1 ⟨rfl, k1⟩; have U1 := U0.below k1 s0; have s1 := U1.sz)
    | (go_at_call 24; (with_reducible refine (cD w1).mono ?_); rintro e w3 ⟨rfl, k3⟩; have U3 := U1.below k3 s1; have s3 := U3.sz; have U4 := U3.below (box_below w3 (.cells #[.int .i64 31, .func (.func 38) #[] #[]] 52)) s3; obtain ⟨v0, v1, _⟩ := U4.all)
    | (go_at_call 38; (with_reducible refine (hc _ U4.bel).mono ?_); rintro e w5 ⟨o1, n1, c1, o2, n2, c2, rfl, f1, f2, k5⟩; have U5 := U4.below k5 U4.sz; obtain ⟨u5, v5, hr5⟩ := U5.r; obtain ⟨z0, z1, z2, z3⟩ := box2 hr5))
  (try simp only [Exit.inBlock, Exit.then])
  refine bodyPost_ret (v := .tuple #[.agg #[.slice o1 n1 c1, .slice o2 n2 c2], .int .i64 E]) (by rw [results_cell_tmp rfl]; go_simp) rfl ?_
  exact ⟨o1, n1, c1, o2, n2, c2, rfl, (ft_set (w := w) f1 (by simp; omega) _ _).mono (by simp; omega), (ft_set (w := w) f2 (by simp; omega) _ _).mono (by simp; omega), below_set2 _ _ _ _ U5.bel (by omega) (Nat.le_refl _)⟩

end Go.Proofs.YtpfdiammgdnhmaaGreat
