
/- Contracts of package mold: reverse; Monad of what MoldBack asks. -/

import Derived.Test.YtpfdiammgdnhmaaGreatCC
import Derived.Test.YtpfdiammgdnhmaaGreatBA

namespace Go.Proofs.YtpfdiammgdnhmaaGreat

open Go.RowKit

set_option linter.unusedVariables false

/-- An item, where there is one. -/
theorem ioz_any (so ao : Option Addr) (sn sc an ac : Nat) (sh at' : List Int) (i : Int) (w : World) (hs : Rd w so sn sh) (ss : Sl so sn sc) (ha : Rd w ao an at') (sa : Sl ao an ac) (hi : itm sh at' ≠ 0) :
    Calls Tryz.prog 57 #[.agg #[.slice so sn sc, .slice ao an ac], .int .i64 i] w fun e w' => Ans w w.heap.size (itmS sh at' i) (itmA sh at' i) (itmE sh at' i) e w' := by
  have U0 := un_start w so sn sc ao an ac
  have s0 := U0.sz
  have cN := items_any so ao sn sc an ac sh at' _ (hs.below U0.bel (Nat.le_refl _)) (ha.below U0.bel (Nat.le_refl _))
  have cI := fun V (U : Un w V so sn sc ao an ac) => item_any so ao sn sc an ac sh at' i V (hs.below U.bel (Nat.le_refl _)) ss (ha.below U.bel (Nat.le_refl _)) sa
  have t0 : (itm sh at' == 0) = false := by simpa using hi
  obtain ⟨x0, x1, _⟩ := U0.all
  clear hi
  go_enter Tryz.func57, Tryz.ntmps57
  go_wp2_with (first
    | (go_at_call 53; (with_reducible refine cN.mono ?_); rintro e w1 ⟨rfl, k1⟩; have U1 := U0.below k1 s0; have s1 := U1.sz; obtain ⟨y0, y1, _⟩ := U1.all)
    | (go_at_call 85; (with_reducible refine (cI w1 U1).mono ?_); rintro e w5 ⟨o1, n1, c1, o2, n2, c2, rfl, f1, f2, ap, k5⟩; have U5 := U1.below k5 s1; have s5 := U5.sz; obtain ⟨u5, v5, hr5⟩ := U5.r; obtain ⟨z0, z1, z2, z3⟩ := box2 hr5))
  (try simp only [Exit.inBlock, Exit.then])
  refine bodyPost_ret (v := .tuple #[.agg #[.slice o1 n1 c1, .slice o2 n2 c2], .int .i64 (itmE sh at' i)]) (by rw [results_cell_tmp rfl]; go_simp) rfl ?_
  exact ⟨o1, n1, c1, o2, n2, c2, rfl, (ft_set (w := w) f1 (by omega) _ _).mono (by omega), (ft_set (w := w) f2 (by omega) _ _).mono (by omega), below_set2 _ _ _ _ U5.bel (by omega) (Nat.le_refl _)⟩

theorem first_any (so ao : Option Addr) (sn sc an ac : Nat) (sh at' : List Int) (w : World) (hs : Rd w so sn sh) (ss : Sl so sn sc) (ha : Rd w ao an at') (sa : Sl ao an ac) (hi : itm sh at' ≠ 0) :
    Calls Tryz.prog 35 #[.agg #[.slice so sn sc, .slice ao an ac]] w fun e w' => Ans w w.heap.size (itmS sh at' 0) (itmA sh at' 0) (itmE sh at' 0) e w' := by
  have U0 := un_start w so sn sc ao an ac
  have s0 := U0.sz
  have cI := ioz_any so ao sn sc an ac sh at' 0 _ (hs.below U0.bel (Nat.le_refl _)) ss (ha.below U0.bel (Nat.le_refl _)) sa hi
  obtain ⟨x0, x1, _⟩ := U0.all
  clear hi
  go_enter Tryz.func35, Tryz.ntmps35
  go_wp2_with (go_at_call 57; (with_reducible refine cI.mono ?_); rintro e w5 ⟨o1, n1, c1, o2, n2, c2, rfl, f1, f2, k5⟩; have U5 := U0.below k5 s0; have s5 := U5.sz; obtain ⟨u5, v5, hr5⟩ := U5.r; obtain ⟨z0, z1, z2, z3⟩ := box2 hr5)
  (try simp only [Exit.inBlock, Exit.then])
  refine bodyPost_ret (v := .tuple #[.agg #[.slice o1 n1 c1, .slice o2 n2 c2], .int .i64 (itmE sh at' 0)]) (by rw [results_cell_tmp rfl]; go_simp) rfl ?_
  exact ⟨o1, n1, c1, o2, n2, c2, rfl, (ft_set (w := w) f1 (by omega) _ _).mono (by omega), (ft_set (w := w) f2 (by omega) _ _).mono (by omega), below_set2 _ _ _ _ U5.bel (by omega) (Nat.le_refl _)⟩

theorem last_any (so ao : Option Addr) (sn sc an ac : Nat) (sh at' : List Int) (w : World) (hs : Rd w so sn sh) (ss : Sl so sn sc) (ha : Rd w ao an at') (sa : Sl ao an ac) (hi : itm sh at' ≠ 0) :
    Calls Tryz.prog 36 #[.agg #[.slice so sn sc, .slice ao an ac]] w fun e w' => Ans w w.heap.size (itmS sh at' (-1)) (itmA sh at' (-1)) (itmE sh at' (-1)) e w' := by
  have U0 := un_start w so sn sc ao an ac
  have s0 := U0.sz
  have cI := ioz_any so ao sn sc an ac sh at' (-1) _ (hs.below U0.bel (Nat.le_refl _)) ss (ha.below U0.bel (Nat.le_refl _)) sa hi
  obtain ⟨x0, x1, _⟩ := U0.all
  clear hi
  go_enter Tryz.func36, Tryz.ntmps36
  go_wp2_with (go_at_call 57; (with_reducible refine cI.mono ?_); rintro e w5 ⟨o1, n1, c1, o2, n2, c2, rfl, f1, f2, k5⟩; have U5 := U0.below k5 s0; have s5 := U5.sz; obtain ⟨u5, v5, hr5⟩ := U5.r; obtain ⟨z0, z1, z2, z3⟩ := box2 hr5)
  (try simp only [Exit.inBlock, Exit.then])
  refine bodyPost_ret (v := .tuple #[.agg #[.slice o1 n1 c1, .slice o2 n2 c2], .int .i64 (itmE sh at' (-1))]) (by rw [results_cell_tmp rfl]; go_simp) rfl ?_
  exact ⟨o1, n1, c1, o2, n2, c2, rfl, (ft_set (w := w) f1 (by omega) _ _).mono (by omega), (ft_set (w := w) f2 (by omega) _ _).mono (by omega), below_set2 _ _ _ _ U5.bel (by omega) (Nat.le_refl _)⟩

theorem behead_any (so ao : Option Addr) (sn sc an ac : Nat) (sh at' : List Int) (w : World) (hs : Rd w so sn sh) (ss : Sl so sn sc) (ha : Rd w ao an at') (sa : Sl ao an ac) (t : Int) (hi : itm sh at' = t) (h1 : 1 ≤ t) (h2 : t ≤ 4096) :
    Calls Tryz.prog 37 #[.agg #[.slice so sn sc, .slice ao an ac]] w fun e w' => Ans w w.heap.size (prtS sh at' 1 (t - 1)) (prtA sh at' 1 (t - 1)) (prtE sh at' 1 (t - 1)) e w' := by
  have U0 := un_start w so sn sc ao an ac
  have s0 := U0.sz
  have cN := items_any so ao sn sc an ac sh at' _ (hs.below U0.bel (Nat.le_refl _)) (ha.below U0.bel (Nat.le_refl _))
  rw [hi] at cN
  have cP : ∀ V m, m = t - 1 → Un w V so sn sc ao an ac → Calls Tryz.prog 58 #[.agg #[.slice so sn sc, .slice ao an ac], .int .i64 1, .int .i64 m] V fun e w' => Ans V V.heap.size (prtS sh at' 1 (t - 1)) (prtA sh at' 1 (t - 1)) (prtE sh at' 1 (t - 1)) e w' := by
    rintro V m rfl U
    exact part_any so ao sn sc an ac sh at' 1 (t - 1) V (hs.below U.bel (Nat.le_refl _)) ss (ha.below U.bel (Nat.le_refl _)) sa (by omega) (by omega) (by omega) (by omega)
  have w1 : IntKind.i64.wrap (t - 1) = t - 1 := wrapIn _ (by omega)
  obtain ⟨x0, x1, _⟩ := U0.all
  go_enter Tryz.func37, Tryz.ntmps37
  go_wp2_with (first
    | (go_at_call 53; (with_reducible refine cN.mono ?_); rintro e w1 ⟨rfl, k1⟩; have U1 := U0.below k1 s0; have s1 := U1.sz; obtain ⟨y0, y1, _⟩ := U1.all)
    | (go_at_call 58; (with_reducible refine (cP w1 _ (by omega) U1).mono ?_); rintro e w5 ⟨o1, n1, c1, o2, n2, c2, rfl, f1, f2, k5⟩; have U5 := U1.below k5 s1; have s5 := U5.sz; obtain ⟨u5, v5, hr5⟩ := U5.r; obtain ⟨z0, z1, z2, z3⟩ := box2 hr5))
  all_goals
    (try simp only [Exit.inBlock, Exit.then])
    refine bodyPost_ret (v := .tuple #[.agg #[.slice o1 n1 c1, .slice o2 n2 c2], .int .i64 (prtE sh at' 1 (t - 1))]) (by rw [results_cell_tmp rfl]; go_simp) rfl ?_
    exact ⟨o1, n1, c1, o2, n2, c2, rfl, (ft_set (w := w) f1 (by omega) _ _).mono (by omega), (ft_set (w := w) f2 (by omega) _ _).mono (by omega), below_set2 _ _ _ _ U5.bel (by omega) (Nat.le_refl _)⟩

set_option maxHeartbeats 2000000 in
theorem curtail_any (so ao : Option Addr) (sn sc an ac : Nat) (sh at' : List Int) (w : World) (hs : Rd w so sn sh) (ss : Sl so sn sc) (ha : Rd w ao an at') (sa : Sl ao an ac) (t : Int) (hi : itm sh at' = t) (h1 : 1 ≤ t) (h2 : t ≤ 4096) :
    Calls Tryz.prog 38 #[.agg #[.slice so sn sc, .slice ao an ac]] w fun e w' => Ans w w.heap.size (prtS sh at' 0 (t - 1)) (prtA sh at' 0 (t - 1)) (prtE sh at' 0 (t - 1)) e w' := by
  have U0 := un_start w so sn sc ao an ac
  have U1 := U0.drew
  have s1 := U1.sz
  have cN := items_any so ao sn sc an ac sh at' _ (hs.below U1.bel (Nat.le_refl _)) (ha.below U1.bel (Nat.le_refl _))
  rw [hi] at cN
  have cP : ∀ V m, m = t - 1 → Un w V so sn sc ao an ac → Calls Tryz.prog 58 #[.agg #[.slice so sn sc, .slice ao an ac], .int .i64 0, .int .i64 m] V fun e w' => Ans V V.heap.size (prtS sh at' 0 (t - 1)) (prtA sh at' 0 (t - 1)) (prtE sh at' 0 (t - 1)) e w' := by
    rintro V m rfl U
    exact part_any so ao sn sc an ac sh at' 0 (t - 1) V (hs.below U.bel (Nat.le_refl _)) ss (ha.below U.bel (Nat.le_refl _)) sa (by omega) (by omega) (by omega) (by omega)
  have w1 : IntKind.i64.wrap (t - 1) = t - 1 := wrapIn _ (by omega)
  obtain ⟨x0, x1, _⟩ := U0.all
  by_cases c : 1 < t
  all_goals
    go_enter Tryz.func38, Tryz.ntmps38
    go_wp2
    go_region_held3 (fun V => V.cell? ⟨w.heap.size, 0, none⟩ = some (.slice so sn sc) ∧ V.cell? ⟨w.heap.size, 1, none⟩ = some (.slice ao an ac) ∧ Un w V so sn sc ao an ac) (first | exact Un.all (by assumption) | exact Un.all (Un.drew (by assumption)) | exact Un.all (Un.set (by assumption) _ _))
      (first
        | (go_at_call 53; (with_reducible refine cN.mono ?_); rintro e w4 ⟨rfl, k4⟩; have U4 := U1.below k4 s1; have s4 := U4.sz)
        | (go_at_call 58; (with_reducible refine (cP w4 _ (by omega) U4).mono ?_); rintro e w5 ⟨o1, n1, c1, o2, n2, c2, rfl, f1, f2, k5⟩; have U5 := U4.below k5 s4; have s5 := U5.sz; obtain ⟨u5, v5, hr5⟩ := U5.r; obtain ⟨z0, z1, z2, z3⟩ := box2 hr5))
    go_wp2
    (try simp only [Exit.inBlock, Exit.then])
    refine bodyPost_ret (v := .tuple #[.agg #[.slice o1 n1 c1, .slice o2 n2 c2], .int .i64 (prtE sh at' 0 (t - 1))]) (by rw [results_cell_tmp rfl]; go_simp) rfl ?_
    exact ⟨o1, n1, c1, o2, n2, c2, rfl, (ft_set (w := w) f1 (by omega) _ _).mono (by omega), (ft_set (w := w) f2 (by omega) _ _).mono (by omega), below_set2 _ _ _ _ U5.bel (by omega) (Nat.le_refl _)⟩

theorem countItems_any (so ao : Option Addr) (sn sc an ac : Nat) (sh at' : List Int) (w : World) (hs : Rd w so sn sh) (ha : Rd w ao an at') (t : Int) (hi : itm sh at' = t) (h1 : 0 ≤ t) (h2 : t ≤ 4096) :
    Calls Tryz.prog 30 #[.agg #[.slice so sn sc, .slice ao an ac]] w fun e w' => Ans w w.heap.size [] [t] 0 e w' := by
  have U0 := un_start w so sn sc ao an ac
  have s0 := U0.sz
  have cN := items_any so ao sn sc an ac sh at' _ (hs.below U0.bel (Nat.le_refl _)) (ha.below U0.bel (Nat.le_refl _))
  rw [hi] at cN
  have cS := fun V => scalar_any t V (by omega) (by omega)
  obtain ⟨x0, x1, _⟩ := U0.all
  go_enter Tryz.func30, Tryz.ntmps30
  go_wp2_with (first
    | (go_at_call 53; (with_reducible refine cN.mono ?_); rintro e w1 ⟨rfl, k1⟩; have U1 := U0.below k1 s0; have s1 := U1.sz)
    | (go_at_call 52; (with_reducible refine (cS w1).mono ?_); rintro e w5 ⟨o2, c2, rfl, f2, k5⟩; have U5 := U1.below k5 s1; have s5 := U5.sz; obtain ⟨u5, v5, hr5⟩ := U5.r; obtain ⟨z0, z1, z2, z3⟩ := box2 hr5))
  (try simp only [Exit.inBlock, Exit.then])
  refine bodyPost_ret (v := .tuple #[.agg #[.slice none 0 0, .slice o2 1 c2], .int .i64 0]) (by rw [results_cell_tmp rfl]; go_simp) rfl ?_
  exact ⟨none, 0, 0, o2, 1, c2, rfl, Ft.nil _ _ _, (ft_set (w := w) f2 (by omega) _ _).mono (by omega), below_set2 _ _ _ _ U5.bel (by omega) (Nat.le_refl _)⟩

set_option maxHeartbeats 2000000 in
theorem monad_tally (so ao : Option Addr) (sn sc an ac : Nat) (sy ay S A : List Int) (E : Int) (w : World) (hsy : Rd w so sn sy) (hay : Rd w ao an ay) (my : mayA sy ay = 0)
    (hc : ∀ V, Below w.heap.size w V → Calls Tryz.prog 30 #[.agg #[.slice so sn sc, .slice ao an ac]] V fun e w' => Ans V V.heap.size S A E e w') :
    Calls Tryz.prog 10 #[.int .i64 22, .agg #[.slice so sn sc, .slice ao an ac]] w fun e w' => Ans w w.heap.size S A E e w' := by
  have U0 := un_start w so sn sc ao an ac
  have s0 := U0.sz
  have cM1 := mayA_any so ao sn sc an ac sy ay _ (hsy.below U0.bel (Nat.le_refl _)) (hay.below U0.bel (Nat.le_refl _))
  rw [my] at cM1
  have cD := fun V => monadOf_yes 22 0 V (by omega) rfl (by intro j hj; match j, hj with  | _, h => omega)
  rw [show mFnN 0 = 30 from rfl] at cD
  obtain ⟨x0, x1, _⟩ := U0.all
  clear my
  go_enter Tryz.func10, Tryz.ntmps10
  go_wp2_with (first
    | (go_at_call 23; (with_reducible refine cM1.mono ?_); rintro e w1 ⟨rfl, k1⟩; have U1 := U0.below k1 s0; have s1 := U1.sz)
    | (go_at_call 24; (with_reducible refine (cD w1).mono ?_); rintro e w3 ⟨rfl, k3⟩; have U3 := U1.below k3 s1; have s3 := U3.sz; have U4 := U3.below (box_below w3 (.cells #[.int .i64 22, .func (.func 30) #[] #[]] 52)) s3; obtain ⟨v0, v1, _⟩ := U4.all)
    | (go_at_call 30; (with_reducible refine (hc _ U4.bel).mono ?_); rintro e w5 ⟨o1, n1, c1, o2, n2, c2, rfl, f1, f2, k5⟩; have U5 := U4.below k5 U4.sz; obtain ⟨u5, v5, hr5⟩ := U5.r; obtain ⟨z0, z1, z2, z3⟩ := box2 hr5))
  (try simp only [Exit.inBlock, Exit.then])
  refine bodyPost_ret (v := .tuple #[.agg #[.slice o1 n1 c1, .slice o2 n2 c2], .int .i64 E]) (by rw [results_cell_tmp rfl]; go_simp) rfl ?_
  exact ⟨o1, n1, c1, o2, n2, c2, rfl, (ft_set (w := w) f1 (by simp; omega) _ _).mono (by simp; omega), (ft_set (w := w) f2 (by simp; omega) _ _).mono (by simp; omega), below_set2 _ _ _ _ U5.bel (by omega) (Nat.le_refl _)⟩

set_option maxHeartbeats 2000000 in
theorem monad_item (so ao : Option Addr) (sn sc an ac : Nat) (sy ay S A : List Int) (E : Int) (w : World) (hsy : Rd w so sn sy) (hay : Rd w ao an ay) (my : mayA sy ay = 0)
    (hc : ∀ V, Below w.heap.size w V → Calls Tryz.prog 34 #[.agg #[.slice so sn sc, .slice ao an ac]] V fun e w' => Ans V V.heap.size S A E e w') :
    Calls Tryz.prog 10 #[.int .i64 26, .agg #[.slice so sn sc, .slice ao an ac]] w fun e w' => Ans w w.heap.size S A E e w' := by
  have U0 := un_start w so sn sc ao an ac
  have s0 := U0.sz
  have cM1 := mayA_any so ao sn sc an ac sy ay _ (hsy.below U0.bel (Nat.le_refl _)) (hay.below U0.bel (Nat.le_refl _))
  rw [my] at cM1
  have cD := fun V => monadOf_yes 26 4 V (by omega) rfl (by intro j hj; match j, hj with | 0, _ => exact (by decide : mOp 0 ≠ 26) | 1, _ => exact (by decide : mOp 1 ≠ 26) | 2, _ => exact (by decide : mOp 2 ≠ 26) | 3, _ => exact (by decide : mOp 3 ≠ 26))
  rw [show mFnN 4 = 34 from rfl] at cD
  obtain ⟨x0, x1, _⟩ := U0.all
  clear my
  go_enter Tryz.func10, Tryz.ntmps10
  go_wp2_with (first
    | (go_at_call 23; (with_reducible refine cM1.mono ?_); rintro e w1 ⟨rfl, k1⟩; have U1 := U0.below k1 s0; have s1 := U1.sz)
    | (go_at_call 24; (with_reducible refine (cD w1).mono ?_); rintro e w3 ⟨rfl, k3⟩; have U3 := U1.below k3 s1; have s3 := U3.sz; have U4 := U3.below (box_below w3 (.cells #[.int .i64 26, .func (.func 34) #[] #[]] 52)) s3; obtain ⟨v0, v1, _⟩ := U4.all)
    | (go_at_call 34; (with_reducible refine (hc _ U4.bel).mono ?_); rintro e w5 ⟨o1, n1, c1, o2, n2, c2, rfl, f1, f2, k5⟩; have U5 := U4.below k5 U4.sz; obtain ⟨u5, v5, hr5⟩ := U5.r; obtain ⟨z0, z1, z2, z3⟩ := box2 hr5))
  (try simp only [Exit.inBlock, Exit.then])
  refine bodyPost_ret (v := .tuple #[.agg #[.slice o1 n1 c1, .slice o2 n2 c2], .int .i64 E]) (by rw [results_cell_tmp rfl]; go_simp) rfl ?_
  exact ⟨o1, n1, c1, o2, n2, c2, rfl, (ft_set (w := w) f1 (by simp; omega) _ _).mono (by simp; omega), (ft_set (w := w) f2 (by simp; omega) _ _).mono (by simp; omega), below_set2 _ _ _ _ U5.bel (by omega) (Nat.le_refl _)⟩

set_option maxHeartbeats 2000000 in
theorem monad_take (so ao : Option Addr) (sn sc an ac : Nat) (sy ay S A : List Int) (E : Int) (w : World) (hsy : Rd w so sn sy) (hay : Rd w ao an ay) (my : mayA sy ay = 0)
    (hc : ∀ V, Below w.heap.size w V → Calls Tryz.prog 35 #[.agg #[.slice so sn sc, .slice ao an ac]] V fun e w' => Ans V V.heap.size S A E e w') :
    Calls Tryz.prog 10 #[.int .i64 28, .agg #[.slice so sn sc, .slice ao an ac]] w fun e w' => Ans w w.heap.size S A E e w' := by
  have U0 := un_start w so sn sc ao an ac
  have s0 := U0.sz
  have cM1 := mayA_any so ao sn sc an ac sy ay _ (hsy.below U0.bel (Nat.le_refl _)) (hay.below U0.bel (Nat.le_refl _))
  rw [my] at cM1
  have cD := fun V => monadOf_yes 28 5 V (by omega) rfl (by intro j hj; match j, hj with | 0, _ => exact (by decide : mOp 0 ≠ 28) | 1, _ => exact (by decide : mOp 1 ≠ 28) | 2, _ => exact (by decide : mOp 2 ≠ 28) | 3, _ => exact (by decide : mOp 3 ≠ 28) | 4, _ => exact (by decide : mOp 4 ≠ 28))
  rw [show mFnN 5 = 35 from rfl] at cD
  obtain ⟨x0, x1, _⟩ := U0.all
  clear my
  go_enter Tryz.func10, Tryz.ntmps10
  go_wp2_with (first
    | (go_at_call 23; (with_reducible refine cM1.mono ?_); rintro e w1 ⟨rfl, k1⟩; have U1 := U0.below k1 s0; have s1 := U1.sz)
    | (go_at_call 24; (with_reducible refine (cD w1).mono ?_); rintro e w3 ⟨rfl, k3⟩; have U3 := U1.below k3 s1; have s3 := U3.sz; have U4 := U3.below (box_below w3 (.cells #[.int .i64 28, .func (.func 35) #[] #[]] 52)) s3; obtain ⟨v0, v1, _⟩ := U4.all)
    | (go_at_call 35; (with_reducible refine (hc _ U4.bel).mono ?_); rintro e w5 ⟨o1, n1, c1, o2, n2, c2, rfl, f1, f2, k5⟩; have U5 := U4.below k5 U4.sz; obtain ⟨u5, v5, hr5⟩ := U5.r; obtain ⟨z0, z1, z2, z3⟩ := box2 hr5))
  (try simp only [Exit.inBlock, Exit.then])
  refine bodyPost_ret (v := .tuple #[.agg #[.slice o1 n1 c1, .slice o2 n2 c2], .int .i64 E]) (by rw [results_cell_tmp rfl]; go_simp) rfl ?_
  exact ⟨o1, n1, c1, o2, n2, c2, rfl, (ft_set (w := w) f1 (by simp; omega) _ _).mono (by simp; omega), (ft_set (w := w) f2 (by simp; omega) _ _).mono (by simp; omega), below_set2 _ _ _ _ U5.bel (by omega) (Nat.le_refl _)⟩

set_option maxHeartbeats 2000000 in
theorem monad_tail (so ao : Option Addr) (sn sc an ac : Nat) (sy ay S A : List Int) (E : Int) (w : World) (hsy : Rd w so sn sy) (hay : Rd w ao an ay) (my : mayA sy ay = 0)
    (hc : ∀ V, Below w.heap.size w V → Calls Tryz.prog 36 #[.agg #[.slice so sn sc, .slice ao an ac]] V fun e w' => Ans V V.heap.size S A E e w') :
    Calls Tryz.prog 10 #[.int .i64 30, .agg #[.slice so sn sc, .slice ao an ac]] w fun e w' => Ans w w.heap.size S A E e w' := by
  have U0 := un_start w so sn sc ao an ac
  have s0 := U0.sz
  have cM1 := mayA_any so ao sn sc an ac sy ay _ (hsy.below U0.bel (Nat.le_refl _)) (hay.below U0.bel (Nat.le_refl _))
  rw [my] at cM1
  have cD := fun V => monadOf_yes 30 6 V (by omega) rfl (by intro j hj; match j, hj with | 0, _ => exact (by decide : mOp 0 ≠ 30) | 1, _ => exact (by decide : mOp 1 ≠ 30) | 2, _ => exact (by decide : mOp 2 ≠ 30) | 3, _ => exact (by decide : mOp 3 ≠ 30) | 4, _ => exact (by decide : mOp 4 ≠ 30) | 5, _ => exact (by decide : mOp 5 ≠ 30))
  rw [show mFnN 6 = 36 from rfl] at cD
  obtain ⟨x0, x1, _⟩ := U0.all
  clear my
  go_enter Tryz.func10, Tryz.ntmps10
  go_wp2_with (first
    | (go_at_call 23; (with_reducible refine cM1.mono ?_); rintro e w1 ⟨rfl, k1⟩; have U1 := U0.below k1 s0; have s1 := U1.sz)
    | (go_at_call 24; (with_reducible refine (cD w1).mono ?_); rintro e w3 ⟨rfl, k3⟩; have U3 := U1.below k3 s1; have s3 := U3.sz; have U4 := U3.below (box_below w3 (.cells #[.int .i64 30, .func (.func 36) #[] #[]] 52)) s3; obtain ⟨v0, v1, _⟩ := U4.all)
    | (go_at_call 36; (with_reducible refine (hc _ U4.bel).mono ?_); rintro e w5 ⟨o1, n1, c1, o2, n2, c2, rfl, f1, f2, k5⟩; have U5 := U4.below k5 U4.sz; obtain ⟨u5, v5, hr5⟩ := U5.r; obtain ⟨z0, z1, z2, z3⟩ := box2 hr5))
  (try simp only [Exit.inBlock, Exit.then])
  refine bodyPost_ret (v := .tuple #[.agg #[.slice o1 n1 c1, .slice o2 n2 c2], .int .i64 E]) (by rw [results_cell_tmp rfl]; go_simp) rfl ?_
  exact ⟨o1, n1, c1, o2, n2, c2, rfl, (ft_set (w := w) f1 (by simp; omega) _ _).mono (by simp; omega), (ft_set (w := w) f2 (by simp; omega) _ _).mono (by simp; omega), below_set2 _ _ _ _ U5.bel (by omega) (Nat.le_refl _)⟩

set_option maxHeartbeats 2000000 in
theorem monad_drop (so ao : Option Addr) (sn sc an ac : Nat) (sy ay S A : List Int) (E : Int) (w : World) (hsy : Rd w so sn sy) (hay : Rd w ao an ay) (my : mayA sy ay = 0)
    (hc : ∀ V, Below w.heap.size w V → Calls Tryz.prog 37 #[.agg #[.slice so sn sc, .slice ao an ac]] V fun e w' => Ans V V.heap.size S A E e w') :
    Calls Tryz.prog 10 #[.int .i64 29, .agg #[.slice so sn sc, .slice ao an ac]] w fun e w' => Ans w w.heap.size S A E e w' := by
  have U0 := un_start w so sn sc ao an ac
  have s0 := U0.sz
  have cM1 := mayA_any so ao sn sc an ac sy ay _ (hsy.below U0.bel (Nat.le_refl _)) (hay.below U0.bel (Nat.le_refl _))
  rw [my] at cM1
  have cD := fun V => monadOf_yes 29 7 V (by omega) rfl (by intro j hj; match j, hj with | 0, _ => exact (by decide : mOp 0 ≠ 29) | 1, _ => exact (by decide : mOp 1 ≠ 29) | 2, _ => exact (by decide : mOp 2 ≠ 29) | 3, _ => exact (by decide : mOp 3 ≠ 29) | 4, _ => exact (by decide : mOp 4 ≠ 29) | 5, _ => exact (by decide : mOp 5 ≠ 29) | 6, _ => exact (by decide : mOp 6 ≠ 29))
  rw [show mFnN 7 = 37 from rfl] at cD
  obtain ⟨x0, x1, _⟩ := U0.all
  clear my
  go_enter Tryz.func10, Tryz.ntmps10
  go_wp2_with (first
    | (go_at_call 23; (with_reducible refine cM1.mono ?_); rintro e w1 ⟨rfl, k1⟩; have U1 := U0.below k1 s0; have s1 := U1.sz)
    | (go_at_call 24; (with_reducible refine (cD w1).mono ?_); rintro e w3 ⟨rfl, k3⟩; have U3 := U1.below k3 s1; have s3 := U3.sz; have U4 := U3.below (box_below w3 (.cells #[.int .i64 29, .func (.func 37) #[] #[]] 52)) s3; obtain ⟨v0, v1, _⟩ := U4.all)
    | (go_at_call 37; (with_reducible refine (hc _ U4.bel).mono ?_); rintro e w5 ⟨o1, n1, c1, o2, n2, c2, rfl, f1, f2, k5⟩; have U5 := U4.below k5 U4.sz; obtain ⟨u5, v5, hr5⟩ := U5.r; obtain ⟨z0, z1, z2, z3⟩ := box2 hr5))
  (try simp only [Exit.inBlock, Exit.then])
  refine bodyPost_ret (v := .tuple #[.agg #[.slice o1 n1 c1, .slice o2 n2 c2], .int .i64 E]) (by rw [results_cell_tmp rfl]; go_simp) rfl ?_
  exact ⟨o1, n1, c1, o2, n2, c2, rfl, (ft_set (w := w) f1 (by simp; omega) _ _).mono (by simp; omega), (ft_set (w := w) f2 (by simp; omega) _ _).mono (by simp; omega), below_set2 _ _ _ _ U5.bel (by omega) (Nat.le_refl _)⟩

set_option maxHeartbeats 2000000 in
theorem monad_curt (so ao : Option Addr) (sn sc an ac : Nat) (sy ay S A : List Int) (E : Int) (w : World) (hsy : Rd w so sn sy) (hay : Rd w ao an ay) (my : mayA sy ay = 0)
    (hc : ∀ V, Below w.heap.size w V → Calls Tryz.prog 38 #[.agg #[.slice so sn sc, .slice ao an ac]] V fun e w' => Ans V V.heap.size S A E e w') :
    Calls Tryz.prog 10 #[.int .i64 31, .agg #[.slice so sn sc, .slice ao an ac]] w fun e w' => Ans w w.heap.size S A E e w' := by
  have U0 := un_start w so sn sc ao an ac
  have s0 := U0.sz
  have cM1 := mayA_any so ao sn sc an ac sy ay _ (hsy.below U0.bel (Nat.le_refl _)) (hay.below U0.bel (Nat.le_refl _))
  rw [my] at cM1
  have cD := fun V => monadOf_yes 31 8 V (by omega) rfl (by intro j hj; match j, hj with | 0, _ => exact (by decide : mOp 0 ≠ 31) | 1, _ => exact (by decide : mOp 1 ≠ 31) | 2, _ => exact (by decide : mOp 2 ≠ 31) | 3, _ => exact (by decide : mOp 3 ≠ 31) | 4, _ => exact (by decide : mOp 4 ≠ 31) | 5, _ => exact (by decide : mOp 5 ≠ 31) | 6, _ => exact (by decide : mOp 6 ≠ 31) | 7, _ => exact (by decide : mOp 7 ≠ 31))
  rw [show mFnN 8 = 38 from rfl] at cD
  obtain ⟨x0, x1, _⟩ := U0.all
  clear my
  go_enter Tryz.func10, Tryz.ntmps10
  go_wp2_with (first
    | (go_at_call 23; (with_reducible refine cM1.mono ?_); rintro e w1 ⟨rfl, k1⟩; have U1 := U0.below k1 s0; have s1 := U1.sz)
    | (go_at_call 24; (with_reducible refine (cD w1).mono ?_); rintro e w3 ⟨rfl, k3⟩; have U3 := U1.below k3 s1; have s3 := U3.sz; have U4 := U3.below (box_below w3 (.cells #[.int .i64 31, .func (.func 38) #[] #[]] 52)) s3; obtain ⟨v0, v1, _⟩ := U4.all)
    | (go_at_call 38; (with_reducible refine (hc _ U4.bel).mono ?_); rintro e w5 ⟨o1, n1, c1, o2, n2, c2, rfl, f1, f2, k5⟩; have U5 := U4.below k5 U4.sz; obtain ⟨u5, v5, hr5⟩ := U5.r; obtain ⟨z0, z1, z2, z3⟩ := box2 hr5))
  (try simp only [Exit.inBlock, Exit.then])
  refine bodyPost_ret (v := .tuple #[.agg #[.slice o1 n1 c1, .slice o2 n2 c2], .int .i64 E]) (by rw [results_cell_tmp rfl]; go_simp) rfl ?_
  exact ⟨o1, n1, c1, o2, n2, c2, rfl, (ft_set (w := w) f1 (by simp; omega) _ _).mono (by simp; omega), (ft_set (w := w) f2 (by simp; omega) _ _).mono (by simp; omega), below_set2 _ _ _ _ U5.bel (by omega) (Nat.le_refl _)⟩

end Go.Proofs.YtpfdiammgdnhmaaGreat


namespace Go.Proofs.YtpfdiammgdnhmaaGreat

open Go.RowKit

set_option linter.unusedVariables false

set_option maxHeartbeats 2000000 in
theorem itemize_any (so ao : Option Addr) (sn sc an ac : Nat) (sh at' : List Int) (w : World) (hs : Rd w so sn sh) (ss : Sl so sn sc) (ha : Rd w ao an at') (sa : Sl ao an ac) (h8 : sn < 8) :
    Calls Tryz.prog 34 #[.agg #[.slice so sn sc, .slice ao an ac]] w fun e w' => Ans w w.heap.size (1 :: sh) at' 0 e w' := by
  have U0 := un_start w so sn sc ao an ac
  have s0 := U0.sz
  have x := U0.all
  obtain ⟨x0, x1, _⟩ := x
  have t0 : ((sn : Int) == 8) = false := by simp; omega
  go_enter Tryz.func34, Tryz.ntmps34
  go_wp2
  generalize (w.alloc (.cells #[.slice so sn sc, .slice ao an ac] 25)).alloc (.cells #[.slice none 0 0, .slice none 0 0] 25) = W0 at *
  have k16 := box_below W0 (.cells #[.int .i64 1] 3)
  have fl := ft_new 3 W0 [1] (by simp) (num1 (by omega) (by omega))
  have k17 := box_below (W0.alloc (.cells #[.int .i64 1] 3)) (.cells #[.slice (some ⟨W0.heap.size, 0, none⟩) 1 1, .slice so sn sc] 22)
  have hv := allocNew (W0.alloc (.cells #[.int .i64 1] 3)) (.cells #[.slice (some ⟨W0.heap.size, 0, none⟩) 1 1, .slice so sn sc] 22)
  have UA := U0.below k16 s0
  have UB := UA.below k17 (by simp; omega)
  have UC := UB.drew
  have UD := UA.drew
  have cCo := concat_any (some ⟨W0.heap.size, 0, none⟩) so 1 1 sn sc (W0.heap.size + 1) [1] sh ((W0.alloc (.cells #[.int .i64 1] 3)).alloc (.cells #[.slice (some ⟨W0.heap.size, 0, none⟩) 1 1, .slice so sn sc] 22)).drew (by rw [World.size_alloc] at hv; exact hv) ((fl.rd.below k17 (Nat.le_refl _)).below (Below.refl _ _).drew (Nat.le_refl _)) fl.sl (hs.below UC.bel (Nat.le_refl _)) ss (by omega) (by omega)
  have c8 := fun V (U : Un w V so sn sc ao an ac) => copied8_any ao an ac at' V (ha.below U.bel (Nat.le_refl _)) sa
  have sB := UC.sz
  clear hv fl
  go_region_held3 (fun V => V.cell? ⟨w.heap.size, 0, none⟩ = some (.slice so sn sc) ∧ V.cell? ⟨w.heap.size, 1, none⟩ = some (.slice ao an ac) ∧ Un w V so sn sc ao an ac) (first | exact Un.all (by assumption) | exact Un.all (Un.drew (by assumption)) | exact Un.all (Un.set (by assumption) _ _))
    (first
      | (go_at_call 56; (with_reducible refine cCo.mono ?_); rintro e w4 ⟨o4, c4, rfl, f4, k4⟩; have U4 := UC.below k4 sB; have s4 := U4.sz)
      | (go_at_call 54; (with_reducible refine (c8 w4 U4).mono ?_); rintro e w5 ⟨o5, c5, rfl, f5, k5⟩; have U5 := U4.below k5 s4; have s5 := U5.sz; obtain ⟨u5, v5, hr5⟩ := U5.r; obtain ⟨z0, z1, z2, z3⟩ := box2 hr5))
  go_wp2
  (try simp only [Exit.inBlock, Exit.then])
  refine bodyPost_ret (v := .tuple #[.agg #[.slice o4 (1 + sn) c4, .slice o5 an c5], .int .i64 0]) (by rw [results_cell_tmp rfl]; go_simp) rfl ?_
  exact ⟨_, _, _, _, _, _, rfl, (ft_set (w := w) (f4.below k5 (Nat.le_refl _)) (by omega) _ _).mono (by omega), (ft_set (w := w) f5 (by omega) _ _).mono (by omega), below_set2 _ _ _ _ U5.bel (by omega) (Nat.le_refl _)⟩

set_option maxHeartbeats 2000000 in
/-- One monad behind another one. -/
theorem then_any (p q : Int) (so ao : Option Addr) (sn sc an ac : Nat) (S1 A1 S2 A2 : List Int) (w : World)
    (h1 : ∀ V, Below w.heap.size w V → Calls Tryz.prog 10 #[.int .i64 q, .agg #[.slice so sn sc, .slice ao an ac]] V fun e w' => Ans V V.heap.size S1 A1 0 e w')
    (h2 : ∀ V o1 n1 c1 o2 n2 c2, Rd V o1 n1 S1 → Sl o1 n1 c1 → Rd V o2 n2 A1 → Sl o2 n2 c2 → Calls Tryz.prog 10 #[.int .i64 p, .agg #[.slice o1 n1 c1, .slice o2 n2 c2]] V fun e w' => Ans V V.heap.size S2 A2 0 e w') :
    Calls Tryz.prog 11 #[.int .i64 p, .int .i64 q, .agg #[.slice so sn sc, .slice ao an ac]] w fun e w' => ∃ o3 n3 c3 o4 n4 c4, e = .returned (.tuple #[.agg #[.slice o3 n3 c3, .slice o4 n4 c4], .bool true]) ∧ Ft 3 w' w.heap.size o3 n3 c3 S2 ∧ Ft 2 w' w.heap.size o4 n4 c4 A2 ∧ Below w.heap.size w w' := by
  have U0 := un_start w so sn sc ao an ac
  have s0 := U0.sz
  have x := U0.all
  obtain ⟨x0, x1, _⟩ := x
  have cA := h1 _ U0.bel
  go_enter Tryz.func11, Tryz.ntmps11
  go_wp2_with (first
    | (go_at_call 10; (with_reducible refine cA.mono ?_); rintro e w1 ⟨o1, n1, c1, o2, n2, c2, rfl, f1, f2, k1⟩; have U1 := U0.below k1 s0; have s1 := U1.sz; have U2 := U1.below (box_below w1 (.cells #[.slice o1 n1 c1, .slice o2 n2 c2] 25)) s1; have s2 := U2.sz)
    | (go_at_call 10; (with_reducible refine (h2 (w1.alloc (.cells #[.slice o1 n1 c1, .slice o2 n2 c2] 25)) o1 n1 c1 o2 n2 c2 (f1.rd.below (box_below w1 _) (Nat.le_refl _)) f1.sl (f2.rd.below (box_below w1 _) (Nat.le_refl _)) f2.sl).mono ?_); rintro e w3 ⟨o3, n3, c3, o4, n4, c4, rfl, f3, f4, k3⟩; have U3 := U2.below k3 s2; have s3 := U3.sz; have U4 := U3.below (box_below w3 (.cells #[.slice o3 n3 c3, .slice o4 n4 c4] 25)) s3; have s4 := U4.sz; obtain ⟨u5, v5, hr5⟩ := U4.r; obtain ⟨z0, z1, z2, z3⟩ := box2 hr5))
  (try simp only [Exit.inBlock, Exit.then])
  refine bodyPost_ret (v := .tuple #[.agg #[.slice o3 n3 c3, .slice o4 n4 c4], .bool true]) (by rw [results_cell_tmp rfl]; go_simp) rfl ?_
  have e3 := f3.below (box_below w3 (.cells #[.slice o3 n3 c3, .slice o4 n4 c4] 25)) (Nat.le_refl _)
  have e4 := f4.below (box_below w3 (.cells #[.slice o3 n3 c3, .slice o4 n4 c4] 25)) (Nat.le_refl _)
  exact ⟨_, _, _, _, _, _, rfl, (ft_set (w := w) e3 (by omega) _ _).mono (by omega), (ft_set (w := w) e4 (by omega) _ _).mono (by omega), below_set2 _ _ _ _ U4.bel (by omega) (Nat.le_refl _)⟩

set_option maxHeartbeats 2000000 in
/-- A monad's answer is this one. -/
theorem does_any (p : Int) (so ao : Option Addr) (sn sc an ac : Nat) (yo bo : Option Addr) (tn tc bn bc : Nat) (S A : List Int) (w : World) (ht : Rd w yo tn S) (hb : Rd w bo bn A)
    (h1 : ∀ V, Below w.heap.size w V → Calls Tryz.prog 10 #[.int .i64 p, .agg #[.slice so sn sc, .slice ao an ac]] V fun e w' => Ans V V.heap.size S A 0 e w') :
    Calls Tryz.prog 13 #[.int .i64 p, .agg #[.slice so sn sc, .slice ao an ac], .agg #[.slice yo tn tc, .slice bo bn bc]] w fun e w' => e = .returned (.bool true) ∧ Below w.heap.size w w' := by
  have k0 := box_below w (.cells #[.slice so sn sc, .slice ao an ac] 25)
  have k1 := box_below (w.alloc (.cells #[.slice so sn sc, .slice ao an ac] 25)) (.cells #[.slice yo tn tc, .slice bo bn bc] 25)
  have k2 := k0.trans (k1.mono k0.size)
  have b2 := allocNew (w.alloc (.cells #[.slice so sn sc, .slice ao an ac] 25)) (.cells #[.slice yo tn tc, .slice bo bn bc] 25)
  simp only [World.size_alloc] at b2
  have cR := h1 _ k2
  have cE := fun V o1 n1 c1 o2 n2 c2 (h1 : Rd V o1 n1 S) (h2 : Rd V o2 n2 A) (k : Below w.heap.size w V) => eq4_any o1 o2 yo bo n1 c1 n2 c2 tn tc bn bc S A S A V h1 h2 (ht.below k (Nat.le_refl _)) (hb.below k (Nat.le_refl _))
  rw [show eqA S A S A = true from eqA_refl S A] at cE
  go_enter Tryz.func13, Tryz.ntmps13
  go_wp2_with (first
    | (go_at_call 10; (with_reducible refine cR.mono ?_); rintro e w5 ⟨o1, n1, c1, o2, n2, c2, rfl, f1, f2, k5⟩; have K5 : Below w.heap.size w w5 := k2.trans (k5.mono k2.size); have T5 := (k5.block (w.heap.size + 1) (by simp)).trans b2; have kb := box_below w5 (.cells #[.slice o1 n1 c1, .slice o2 n2 c2] 25); have K6 := K5.trans (kb.mono K5.size); have T6 := (kb.block _ (Array.getElem?_eq_some_iff.1 T5).1).trans T5; obtain ⟨y0, y1, _, _⟩ := box2 T6)
    | (go_at_call 12; (with_reducible refine (cE _ o1 n1 c1 o2 n2 c2 (f1.rd.below kb (Nat.le_refl _)) (f2.rd.below kb (Nat.le_refl _)) K6).mono ?_); rintro e w7 ⟨rfl, k7⟩))
  go_ret
  exact ⟨rfl, K6.trans (k7.mono K6.size)⟩
end Go.Proofs.YtpfdiammgdnhmaaGreat



namespace Go.Proofs.YtpfdiammgdnhmaaGreat

open Go.RowKit

set_option linter.unusedVariables false

theorem gth_none {at' : List Int} (h : at'.length = 1) : gth at' [] = at' := by
  match at', h with
  | [a], _ => rfl
set_option maxHeartbeats 4000000 in
set_option maxRecDepth 20000 in
theorem reverse_sc (so ao : Option Addr) (sc an ac : Nat) (at' : List Int) (w : World) (hs : Rd w so 0 []) (ha : Rd w ao an at') (my : mayA [] at' = 0) :
    Calls Tryz.prog 39 #[.agg #[.slice so 0 sc, .slice ao an ac]] w fun e w' => Ans w w.heap.size [] at' 0 e w' := by
  have U0 := un_start w so 0 sc ao an ac
  have s0 := U0.sz
  have hsl := hs.len
  obtain ⟨m1, m2⟩ := mayA_zero my
  have hsn8 : (0 : Nat) ≤ 8 := by rw [← hsl]; exact (mayF_zero m1).2.1
  have hsz : ((w.alloc (.cells #[.slice so 0 sc, .slice ao an ac] 25)).alloc (.cells #[.slice none 0 0, .slice none 0 0] 25)).heap.size = w.heap.size + 1 + 1 := by simp
  have hal : at'.length = 1 := by have : pr [] = 1 := rfl; omega
  have han : an = 1 := by have := ha.len; omega
  have cAx := axesOf_any so 0 sc [] _ (hs.below U0.bel (Nat.le_refl _)) (by omega) (fun k hk => by omega) (fun k hk => drop_small m1 k)
  rw [hsz] at cAx
  have cG := fun V (X : Axs V (w.heap.size + 1 + 1) 0 (axsOf [])) (U : Un w V so 0 sc ao an ac) => gather_any so ao (some ⟨w.heap.size + 1 + 1, 0, none⟩) 0 sc an ac 0 0 at' (axsOf []) V (ha.below U.bel (Nat.le_refl _)) X.ax (by omega) (fun k hk => by omega) (fun _ p hp => by
    have : p ∈ [(0 : Int)] := hp
    simp at this; omega)
  have eL : lens (axsOf []) = [] := rfl
  have eM : mayF [] = 0 := by rfl
  have eF : filS [] = [] := by rfl
  have eG : gthS at' (axsOf []) = at' := by unfold gthS; rw [eL, if_pos eM]; exact gth_none hal
  rw [eG, eL, eM, eF] at cG
  obtain ⟨x0, x1, _⟩ := U0.all
  clear my hsl han hal
  go_enter Tryz.func39, Tryz.ntmps39
  go_wp2_with (first
    | (go_at_call 59; (with_reducible refine cAx.mono ?_); rintro e w4 ⟨rfl, X4, k4⟩; have U4 := U0.below k4 (by omega); have s4 := U4.sz; obtain ⟨y0, y1, _⟩ := U4.all)
    | (go_at_call 61; (with_reducible refine (cG w4 X4 U4).mono ?_); rintro e w6 ⟨o1, n1, c1, o2, n2, c2, rfl, f1, f2, k6⟩; have U6 := U4.below k6 s4; have s6 := U6.sz; obtain ⟨u6, v6, hr6⟩ := U6.r; obtain ⟨z0, z1, z2, z3⟩ := box2 hr6))
  (try simp only [Exit.inBlock, Exit.then])
  refine bodyPost_ret (v := .tuple #[.agg #[.slice o1 n1 c1, .slice o2 n2 c2], .int .i64 0]) (by rw [results_cell_tmp rfl]; go_simp) rfl ?_
  exact ⟨o1, n1, c1, o2, n2, c2, rfl, (ft_set (w := w) f1 (by omega) _ _).mono (by omega), (ft_set (w := w) f2 (by omega) _ _).mono (by omega), below_set2 _ _ _ _ U6.bel (by omega) (Nat.le_refl _)⟩

set_option maxHeartbeats 4000000 in
set_option maxRecDepth 20000 in
theorem reverse_in (so ao : Option Addr) (sn sc an ac : Nat) (z : Int) (r at' : List Int) (w : World) (hs : Rd w so sn (z :: r)) (ha : Rd w ao an at') (my : mayA (z :: r) at' = 0) :
    Calls Tryz.prog 39 #[.agg #[.slice so sn sc, .slice ao an ac]] w fun e w' => Ans w w.heap.size (z :: r) (gth at' (bkX (z :: r))) 0 e w' := by
  have U0 := un_start w so sn sc ao an ac
  have s0 := U0.sz
  have hsl := hs.len
  obtain ⟨m1, m2⟩ := mayA_zero my
  have hsn8 : sn ≤ 8 := by rw [← hsl]; exact (mayF_zero m1).2.1
  have hsz : ((w.alloc (.cells #[.slice so sn sc, .slice ao an ac] 25)).alloc (.cells #[.slice none 0 0, .slice none 0 0] 25)).heap.size = w.heap.size + 1 + 1 := by simp
  have hsn0 : 0 < sn := by rw [← hsl]; simp
  have hz := (mayF_zero m1).1
  have h0 : 0 ≤ z := hz 0 (by simp)
  have hr : ∀ k, k < r.length → 0 ≤ nth r k := fun k hk => hz (k + 1) (by simpa using hk)
  have cAx := axesOf_any so sn sc (z :: r) _ (hs.below U0.bel (Nat.le_refl _)) (by omega) (fun k hk => nth_small m1 (by omega)) (fun k hk => drop_small m1 k)
  rw [hsz] at cAx
  obtain ⟨A0, hA0⟩ : ∃ A, nax (axsOf (z :: r)) 0 = A := ⟨_, rfl⟩
  have eB : (axsOf (z :: r)).set 0 (baA A0) = bkX (z :: r) := by rw [← hA0, bkX_cons]; simp [axsOf, nax]
  have hnax : ∀ k, k < sn → (nax (bkX (z :: r)) k).len ≤ 1000000 := fun k hk => by
    have e := lens_nth (axs := bkX (z :: r)) (k := k) (by rw [← lens_len, lens_bkX m1, hsl]; exact hk)
    rw [lens_bkX m1] at e
    have := nth_small m1 (k := k) (by rw [hsl]; exact hk)
    omega
  have hpls : ∀ p, p ∈ pls (bkX (z :: r)) → p = -1 ∨ (0 ≤ p ∧ p < an) := by
    rw [bkX_cons]
    refine pls_first_in hr rfl ?_
    rw [pr_cons, ha.len] at m2
    show ((z.toNat : Nat) : Int) * pr r ≤ _
    rw [Int.toNat_of_nonneg h0]; omega
  have cG := fun V (X : Axs V (w.heap.size + 1 + 1) sn (bkX (z :: r))) (U : Un w V so sn sc ao an ac) => gather_any so ao (some ⟨w.heap.size + 1 + 1, 0, none⟩) sn sc an ac sn sn at' (bkX (z :: r)) V (ha.below U.bel (Nat.le_refl _)) X.ax (by omega) hnax (fun _ => hpls)
  have eG : gthS at' (bkX (z :: r)) = gth at' (bkX (z :: r)) := by unfold gthS; rw [lens_bkX m1, if_pos m1]
  rw [eG, lens_bkX m1, m1, show filS (z :: r) = z :: r from if_pos m1] at cG
  have EB : Hid ((axsOf (z :: r)).set 0 (baA A0) = bkX (z :: r) ∧ nax (axsOf (z :: r)) 0 = A0) := ⟨eB, hA0⟩
  have t0 : decide ((0 : Int) < (sn : Int)) = true := by simp; omega
  have b00 : (0 : Int) < (sn : Int) := by omega
  obtain ⟨x0, x1, _⟩ := U0.all
  clear my hsl eB hA0 hnax hpls eG hz hr m1 m2
  go_enter Tryz.func39, Tryz.ntmps39
  go_wp2_with (first
    | (go_at_call 59; (with_reducible refine cAx.mono ?_); rintro e w4 ⟨rfl, X4, k4⟩; have U4 := U0.below k4 (by omega); have s4 := U4.sz; have a4 := X4.at2 (k := 0) hsn0; rw [EB.out.2] at a4; simp only [Nat.zero_mul, Nat.zero_add] at a4; obtain ⟨K, cs, bs, y0, y1, y2, y3, hway, hbs, hwd, hst⟩ := a4; have HB : Hid (∀ b, b ∈ bs → (∃ v, w4.cell? ⟨b, 0, none⟩ = some v) ∧ b ≠ w.heap.size + 1 + 1) := hbs; clear hbs)
    | (go_at_call 60; (with_reducible refine (back_any A0 K cs bs w4 hwd hst).mono ?_); rintro e w5 ⟨v, rfl, ⟨K', cs', bs', rfl, way', out'⟩, k5⟩; have U5 := U4.below k5 s4; have X5 := X4.below k5; have a5 := X5.slots (k := 0) hsn0; simp only [Nat.zero_mul, Nat.zero_add] at a5; obtain ⟨q0, q1, q2, q3, z0, z1, z2, z3, e0, e1, e2, e3⟩ := a5; have X6 := X5.put (k := 0) hsn0 (a := baA A0) (bs := bs') ⟨way', fun b m => ⟨(out' b m).1, (by rcases (out' b m).2 with h | h; (· exact (HB.out b h).2); (· have := X4.lt; omega))⟩, hwd, hst⟩; rw [EB.out.1] at X6; have U6 : Un w (put4 w5 (w.heap.size + 1 + 1) 0 (.int .i64 ((baA A0).len : Nat)) (.int .i64 ((baA A0).wid : Nat)) (.int .i64 ((baA A0).stp : Nat)) (.func (.func K') #[] cs')) so sn sc ao an ac := U5.below (below_set4 _ _ _ _ _ _ _ _ (Below.refl (w.heap.size + 1 + 1) w5) (Nat.le_refl _)) (by omega); have s6 := U6.sz; have cH := cG _ X6 U6; simp only [put4, Nat.zero_mul, Nat.zero_add] at cH s6; obtain ⟨g0, g1, _⟩ := U6.all; simp only [put4, Nat.zero_mul, Nat.zero_add] at g0 g1)
    | (go_at_call 61; (with_reducible refine cH.mono ?_); rintro e w7 ⟨o1, n1, c1, o2, n2, c2, rfl, f1, f2, k7⟩; have U7 := U6.below k7 s6; have s7 := U7.sz; obtain ⟨u6, v6, hr6⟩ := U7.r; obtain ⟨i0, i1, i2, i3⟩ := box2 hr6))
  (try simp only [Exit.inBlock, Exit.then])
  refine bodyPost_ret (v := .tuple #[.agg #[.slice o1 n1 c1, .slice o2 n2 c2], .int .i64 0]) (by rw [results_cell_tmp rfl]; go_simp) rfl ?_
  exact ⟨o1, n1, c1, o2, n2, c2, rfl, (ft_set (w := w) f1 (by omega) _ _).mono (by omega), (ft_set (w := w) f2 (by omega) _ _).mono (by omega), below_set2 _ _ _ _ U7.bel (by omega) (Nat.le_refl _)⟩

end Go.Proofs.YtpfdiammgdnhmaaGreat
