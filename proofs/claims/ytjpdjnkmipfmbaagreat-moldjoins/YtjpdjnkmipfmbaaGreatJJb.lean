
/- MoldJoins: two arrays of one shape under one another; both. -/

import Derived.Test.YtjpdjnkmipfmbaaGreatJJa

namespace Go.Proofs.YtjpdjnkmipfmbaaGreat

open Go.RowKit

set_option linter.unusedVariables false

theorem lit2 (V : World) : Ft 3 (V.alloc (.cells #[.int .i64 2] 3)) V.heap.size (some ⟨V.heap.size, 0, none⟩) 1 1 [2] := ft_new 3 V [2] (by simp) (by decide)
/-- Join of the two, where the frame's length and the list of arrays lie. -/
theorem joinT (fo : Addr) (lo : Addr) (s ax ay : List Int) (V : World) (hf : Rd V (some fo) 1 [2]) (ha : As V (some lo) 2 (two2 s ax ay)) (mx : mayA s ax = 0) (my : mayA s ay = 0) :
    Calls Tryz.prog 62 #[.slice (some fo) 1 1, .slice (some lo) 2 2] V fun e w' => Ans V V.heap.size (if mayF (2 :: s) = 0 then 2 :: s else []) (if mayF (2 :: s) = 0 then ax ++ ay else []) (if mayF (2 :: s) = 0 then 0 else 17) e w' := by
  have hb : begE [2] = 0 := by decide
  have hj := two2_jF mx my
  by_cases h : mayF (2 :: s) = 0
  · rw [if_pos h] at hj
    refine (join_ok (some fo) 1 1 [2] (some lo) 2 2 (two2 s ax ay) V hf ⟨fun e => (by cases e), by omega, by omega⟩ ha hb hj rfl).mono ?_
    rintro e w' ⟨o1, n1, c1, o2, n2, c2, he, f1, f2, k⟩
    rw [two2_cmn] at f1 f2
    rw [two2_jn mx my] at f2
    rw [if_pos h, if_pos h, if_pos h]
    exact ⟨o1, n1, c1, o2, n2, c2, he, f1, f2, k⟩
  · rw [if_neg h] at hj
    refine (join_err (some fo) 1 1 [2] (some lo) 2 2 (two2 s ax ay) V hf ⟨fun e => (by cases e), by omega, by omega⟩ ha hb (by rw [hj]; decide)).mono ?_
    rintro e w' ⟨he, k⟩
    rw [hj] at he
    rw [if_neg h, if_neg h, if_neg h]
    exact ⟨none, 0, 0, none, 0, 0, he, Ft.nil _ _ _, Ft.nil _ _ _, k⟩

set_option maxHeartbeats 8000000 in
set_option maxRecDepth 20000 in
theorem laminate_any (xso xo so ao : Option Addr) (xsn xsc xn xc sn sc an ac : Nat) (s ax ay : List Int) (w : World) (h1 : Rd w xso xsn s) (s1 : Sl xso xsn xsc) (h2 : Rd w xo xn ax) (s2 : Sl xo xn xc) (h3 : Rd w so sn s) (s3 : Sl so sn sc) (h4 : Rd w ao an ay) (s4 : Sl ao an ac) (mx : mayA s ax = 0) (my : mayA s ay = 0) (hn : 0 < xsn) (hm : 0 < sn) :
    Calls Tryz.prog 28 #[.agg #[.slice xso xsn xsc, .slice xo xn xc], .agg #[.slice so sn sc, .slice ao an ac]] w fun e w' => Ans w w.heap.size (if mayF (2 :: s) = 0 then 2 :: s else []) (if mayF (2 :: s) = 0 then ax ++ ay else []) (if mayF (2 :: s) = 0 then 0 else 17) e w' := by
  have D0 := dw_start w xso xsn xsc xo xn xc so sn sc ao an ac
  have cS1 := fun V => spread_no xso xo so xsn xsc xn xc sn sc V hn
  have cS2 := fun V => spread_no so ao xso sn sc an ac xsn xsc V hm
  have al : ∀ V, Dw w V xso xsn xsc xo xn xc so sn sc ao an ac → V.cell? ⟨w.heap.size, 0, none⟩ = some (.slice xso xsn xsc) ∧ V.cell? ⟨w.heap.size, 1, none⟩ = some (.slice xo xn xc) ∧ V.cell? ⟨w.heap.size + 1, 0, none⟩ = some (.slice so sn sc) ∧ V.cell? ⟨w.heap.size + 1, 1, none⟩ = some (.slice ao an ac) := fun V D => by obtain ⟨a, b, c, d, _⟩ := D.all; exact ⟨a, b, c, d⟩
  have cJ := fun V (D : Dw w V xso xsn xsc xo xn xc so sn sc ao an ac) f l (r : Rd V (some f) 1 [2]) (q : As V (some l) 2 (two2 s ax ay)) => joinT f l s ax ay V r q mx my
  have asV := fun V (D : Dw w V xso xsn xsc xo xn xc so sn sc ao an ac) => two2_as (V := V) (h1.below D.bel (Nat.le_refl _)) s1 (h2.below D.bel (Nat.le_refl _)) s2 (h3.below D.bel (Nat.le_refl _)) s3 (h4.below D.bel (Nat.le_refl _)) s4
  generalize (if mayF (2 :: s) = 0 then 2 :: s else []) = RS at *
  generalize (if mayF (2 :: s) = 0 then ax ++ ay else []) = RA at *
  generalize (if mayF (2 :: s) = 0 then (0 : Int) else 17) = RE at *
  obtain ⟨x0, x1, x2, x3, _⟩ := D0.all
  go_enter Tryz.func28, Tryz.ntmps28
  go_wp2
  generalize ((w.alloc (.cells #[.slice xso xsn xsc, .slice xo xn xc] 25)).alloc (.cells #[.slice so sn sc, .slice ao an ac] 25)).alloc (.cells #[.slice none 0 0, .slice none 0 0] 25) = U at *
  have DU := D0.drew
  have DL := (D0.below (box_below U (.cells #[.int .i64 2] 3)) (Nat.le_refl _)).drew
  have sU := D0.sz
  have LL0 := (lit2 U).rd.below (Below.refl _ _).drew (Nat.le_refl _)
  go_region_held3 (fun V => V.cell? ⟨w.heap.size, 0, none⟩ = some (.slice xso xsn xsc) ∧ V.cell? ⟨w.heap.size, 1, none⟩ = some (.slice xo xn xc) ∧ V.cell? ⟨w.heap.size + 1, 0, none⟩ = some (.slice so sn sc) ∧ V.cell? ⟨w.heap.size + 1, 1, none⟩ = some (.slice ao an ac)) (first | exact al _ DU | exact al _ DL | exact al _ D1 | exact al _ D2 | exact al _ (D1.below (box_below _ _) (Nat.le_refl _)) | exact al _ (D2.below (box_below _ _) (Nat.le_refl _)) | exact al _ ((D2.below (box_below _ _) (Nat.le_refl _)).below (box_below _ _) (Nat.le_refl _)) | exact al _ D5 | exact al _ (D5.setR _ _))
    (first
      | (go_at_call 52; (with_reducible refine (cS1 (U.alloc (.cells #[.int .i64 2] 3)).drew).mono ?_); rintro e w1 ⟨rfl, k1⟩; have D1 := DL.below k1 (Nat.le_refl _); have LL1 := LL0.below k1 (Nat.le_refl _))
      | (go_at_call 52; (with_reducible refine (cS1 U.drew).mono ?_); rintro e w1 ⟨rfl, k1⟩; have D1 := DU.below k1 (Nat.le_refl _))
      | (go_at_call 52; (with_reducible refine (cS2 w1).mono ?_); rintro e w2 ⟨rfl, k2⟩; have D2 := D1.below k2 (Nat.le_refl _); (try (have LL2 := LL1.below k2 (Nat.le_refl _))))
      | (go_at_call 52; (with_reducible refine (cS2 (w1.alloc (.cells #[.int .i64 2] 3))).mono ?_); rintro e w2 ⟨rfl, k2⟩; have D2 := (D1.below (box_below w1 (.cells #[.int .i64 2] 3)) (Nat.le_refl _)).below k2 (Nat.le_refl _); have LL2 := (lit2 w1).rd.below k2 (Nat.le_refl _))
      | (go_at_call 62; have DA := D2.below (box_below w2 (.cells #[.slice xso xsn xsc, .slice xo xn xc, .slice so sn sc, .slice ao an ac] 25)) (Nat.le_refl _); (with_reducible refine (cJ (w2.alloc (.cells #[.slice xso xsn xsc, .slice xo xn xc, .slice so sn sc, .slice ao an ac] 25)) DA _ _ (LL2.below (box_below w2 _) (Nat.le_refl _)) (asV w2 D2)).mono ?_); rintro e w5 ⟨o1, n1, c1, o2, n2, c2, rfl, f1, f2, k5⟩; have D5 := DA.below k5 (Nat.le_refl _); have sD := DA.sz; obtain ⟨u5, v5, hr5⟩ := D5.r; obtain ⟨z0, z1, z2, z3⟩ := box2 hr5)
      | (go_at_call 62; have DA := (D2.below (box_below w2 (.cells #[.int .i64 2] 3)) (Nat.le_refl _)).below (box_below _ (.cells #[.slice xso xsn xsc, .slice xo xn xc, .slice so sn sc, .slice ao an ac] 25)) (Nat.le_refl _); have aa := asV (w2.alloc (.cells #[.int .i64 2] 3)) (D2.below (box_below w2 (.cells #[.int .i64 2] 3)) (Nat.le_refl _)); simp only [World.size_alloc] at aa; (with_reducible refine (cJ ((w2.alloc (.cells #[.int .i64 2] 3)).alloc (.cells #[.slice xso xsn xsc, .slice xo xn xc, .slice so sn sc, .slice ao an ac] 25)) DA _ _ ((lit2 w2).rd.below (box_below _ _) (Nat.le_refl _)) aa).mono ?_); rintro e w5 ⟨o1, n1, c1, o2, n2, c2, rfl, f1, f2, k5⟩; have D5 := DA.below k5 (Nat.le_refl _); have sD := DA.sz; obtain ⟨u5, v5, hr5⟩ := D5.r; obtain ⟨z0, z1, z2, z3⟩ := box2 hr5)
      | (go_at_call 62; have DA := (D2.below (box_below w2 (.cells #[.slice xso xsn xsc, .slice xo xn xc, .slice so sn sc, .slice ao an ac] 25)) (Nat.le_refl _)).below (box_below _ (.cells #[.int .i64 2] 3)) (Nat.le_refl _); have aa := (lit2 (w2.alloc (.cells #[.slice xso xsn xsc, .slice xo xn xc, .slice so sn sc, .slice ao an ac] 25))).rd; simp only [World.size_alloc] at aa; (with_reducible refine (cJ ((w2.alloc (.cells #[.slice xso xsn xsc, .slice xo xn xc, .slice so sn sc, .slice ao an ac] 25)).alloc (.cells #[.int .i64 2] 3)) DA _ _ aa ((asV w2 D2).below (box_below _ _) (Nat.le_refl _))).mono ?_); rintro e w5 ⟨o1, n1, c1, o2, n2, c2, rfl, f1, f2, k5⟩; have D5 := DA.below k5 (Nat.le_refl _); have sD := DA.sz; obtain ⟨u5, v5, hr5⟩ := D5.r; obtain ⟨z0, z1, z2, z3⟩ := box2 hr5))
  all_goals
    go_wp2
    (try simp only [Exit.inBlock, Exit.then])
    refine bodyPost_ret (v := .tuple #[.agg #[.slice o1 n1 c1, .slice o2 n2 c2], .int .i64 RE]) (by rw [results_cell_tmp rfl]; go_simp) rfl ?_
    exact ⟨o1, n1, c1, o2, n2, c2, rfl, (ft_set (w := w) f1 (by omega) _ _).mono (by omega), (ft_set (w := w) f2 (by omega) _ _).mono (by omega), below_set2 _ _ _ _ D5.bel (by omega) (Nat.le_refl _)⟩
theorem dyad26_any (xso xo so ao : Option Addr) (xsn xsc xn xc sn sc an ac : Nat) (s ax ay : List Int) (w : World) (h1 : Rd w xso xsn s) (s1 : Sl xso xsn xsc) (h2 : Rd w xo xn ax) (s2 : Sl xo xn xc) (h3 : Rd w so sn s) (s3 : Sl so sn sc) (h4 : Rd w ao an ay) (s4 : Sl ao an ac) (mx : mayA s ax = 0) (my : mayA s ay = 0) (hn : 0 < xsn) (hm : 0 < sn) :
    Calls Tryz.prog 6 #[.int .i64 26, .agg #[.slice xso xsn xsc, .slice xo xn xc], .agg #[.slice so sn sc, .slice ao an ac]] w fun e w' => Ans w w.heap.size (if mayF (2 :: s) = 0 then 2 :: s else []) (if mayF (2 :: s) = 0 then ax ++ ay else []) (if mayF (2 :: s) = 0 then 0 else 17) e w' :=
  dyad_item xso xo so ao xsn xsc xn xc sn sc an ac s ax s ay _ _ _ w h1 h2 h3 h4 mx my (fun V k => laminate_any xso xo so ao xsn xsc xn xc sn sc an ac s ax ay V (h1.below k (Nat.le_refl _)) s1 (h2.below k (Nat.le_refl _)) s2 (h3.below k (Nat.le_refl _)) s3 (h4.below k (Nat.le_refl _)) s4 mx my hn hm)
set_option maxHeartbeats 2000000 in
/-- both, where the dyad tells what is wanted. -/
theorem both_is (op : Int) (xso xo so ao yo bo : Option Addr) (xsn xsc xn xc sn sc an ac tn tc bn bc : Nat) (S A : List Int) (w : World) (ht : Rd w yo tn S) (hb : Rd w bo bn A)
    (hc : ∀ V, Below w.heap.size w V → Calls Tryz.prog 6 #[.int .i64 op, .agg #[.slice xso xsn xsc, .slice xo xn xc], .agg #[.slice so sn sc, .slice ao an ac]] V fun e w' => Ans V V.heap.size S A 0 e w') :
    Calls Tryz.prog 10 #[.int .i64 op, .agg #[.slice xso xsn xsc, .slice xo xn xc], .agg #[.slice so sn sc, .slice ao an ac], .agg #[.slice yo tn tc, .slice bo bn bc]] w fun e w' => e = .returned (.bool true) ∧ Below w.heap.size w w' := by
  have k3 := three_below w (.cells #[.slice xso xsn xsc, .slice xo xn xc] 25) (.cells #[.slice so sn sc, .slice ao an ac] 25) (.cells #[.slice yo tn tc, .slice bo bn bc] 25)
  have b2 := allocNew ((w.alloc (.cells #[.slice xso xsn xsc, .slice xo xn xc] 25)).alloc (.cells #[.slice so sn sc, .slice ao an ac] 25)) (.cells #[.slice yo tn tc, .slice bo bn bc] 25)
  simp only [World.size_alloc] at b2
  have cR := hc _ k3
  have cE := fun V o1 n1 c1 o2 n2 c2 (h1 : Rd V o1 n1 S) (h2 : Rd V o2 n2 A) (k : Below w.heap.size w V) => eq4_any o1 o2 yo bo n1 c1 n2 c2 tn tc bn bc S A S A V h1 h2 (ht.below k (Nat.le_refl _)) (hb.below k (Nat.le_refl _))
  rw [show eqA S A S A = true from eqA_refl S A] at cE
  clear hc
  go_enter Tryz.func10, Tryz.ntmps10
  go_wp2_with (first
    | (go_at_call 6; (with_reducible refine cR.mono ?_); rintro e w5 ⟨o1, n1, c1, o2, n2, c2, rfl, f1, f2, k5⟩; have K5 : Below w.heap.size w w5 := k3.trans (k5.mono k3.size); have T5 := (k5.block (w.heap.size + 1 + 1) (by simp)).trans b2; have kb := box_below w5 (.cells #[.slice o1 n1 c1, .slice o2 n2 c2] 25); have K6 := K5.trans (kb.mono K5.size); have T6 := (kb.block _ (Array.getElem?_eq_some_iff.1 T5).1).trans T5; obtain ⟨y0, y1, _, _⟩ := box2 T6)
    | (go_at_call 14; (with_reducible refine (cE _ o1 n1 c1 o2 n2 c2 (f1.rd.below kb (Nat.le_refl _)) (f2.rd.below kb (Nat.le_refl _)) K6).mono ?_); rintro e w7 ⟨rfl, k7⟩))
  go_ret
  exact ⟨rfl, K6.trans (k7.mono K6.size)⟩
end Go.Proofs.YtjpdjnkmipfmbaaGreat
