
/- Contracts of package mold: Dyad and Monad of the ops that the statements ask. -/

import Derived.Test.YtldhochafkcpiaaGreatMK
import Derived.Test.YtldhochafkcpiaaGreatMU
import Derived.Test.YtldhochafkcpiaaGreatMV


namespace Go.Proofs.YtldhochafkcpiaaGreat

open Go.RowKit

set_option linter.unusedVariables false

theorem Un.all {w W : World} {so : Option Addr} {sn sc : Nat} {ao : Option Addr} {an ac : Nat} (h : Un w W so sn sc ao an ac) : W.cell? ⟨w.heap.size, 0, none⟩ = some (.slice so sn sc) ∧ W.cell? ⟨w.heap.size, 1, none⟩ = some (.slice ao an ac) ∧ Un w W so sn sc ao an ac := ⟨h.c0, h.c1, h⟩
theorem Un.drew {w W : World} {so : Option Addr} {sn sc : Nat} {ao : Option Addr} {an ac : Nat} (h : Un w W so sn sc ao an ac) : Un w W.drew so sn sc ao an ac := h.below (Below.refl W.heap.size W).drew h.sz
theorem Un.set {w W : World} {so : Option Addr} {sn sc : Nat} {ao : Option Addr} {an ac : Nat} (h : Un w W so sn sc ao an ac) (u v : Value) : Un w ((W.setCell ⟨w.heap.size + 1, 0, none⟩ u).setCell ⟨w.heap.size + 1, 1, none⟩ v) so sn sc ao an ac := by
  have hg := set2 W (w.heap.size + 1) 0 1 u v
  obtain ⟨s, t, hr⟩ := h.r
  have a1 := heap_setCell_same W (w.heap.size + 1) 0 _ 25 u hr
  have a2 := heap_setCell_same _ (w.heap.size + 1) 1 _ 25 v a1
  exact ⟨hg.cell h.c0 (show some w.heap.size ≠ _ from some_ne (by omega)), hg.cell h.c1 (show some w.heap.size ≠ _ from some_ne (by omega)), ⟨u, v, by simpa using a2⟩, below_set2 _ _ _ _ h.bel (by omega) (Nat.le_refl _)⟩

end Go.Proofs.YtldhochafkcpiaaGreat



namespace Go.Proofs.YtldhochafkcpiaaGreat

open Go.RowKit

set_option linter.unusedVariables false

/-- What a call answers: an array and an error. -/
def Ans (w : World) (B : Nat) (S A : List Int) (E : Int) (e : Ending) (w' : World) : Prop := ∃ o1 n1 c1 o2 n2 c2, e = .returned (.tuple #[.agg #[.slice o1 n1 c1, .slice o2 n2 c2], .int .i64 E]) ∧ Ft 3 w' B o1 n1 c1 S ∧ Ft 2 w' B o2 n2 c2 A ∧ Below w.heap.size w w'

set_option maxHeartbeats 2000000 in
theorem take_call (xso xo so ao : Option Addr) (xsn xsc xn xc sn sc an ac : Nat) (S A : List Int) (E : Int) (w : World)
    (hc : ∀ V, Below w.heap.size w V → Calls Tryz.prog 62 #[.agg #[.slice xso xsn xsc, .slice xo xn xc], .agg #[.slice so sn sc, .slice ao an ac], .func (.func 63) #[] #[]] V fun e w' => Ans V V.heap.size S A E e w') :
    Calls Tryz.prog 28 #[.agg #[.slice xso xsn xsc, .slice xo xn xc], .agg #[.slice so sn sc, .slice ao an ac]] w fun e w' => Ans w w.heap.size S A E e w' := by
  have D0 := dw_start w xso xsn xsc xo xn xc so sn sc ao an ac
  have cI := hc _ D0.bel
  obtain ⟨x0, x1, x2, x3, _⟩ := D0.all
  go_enter Tryz.func28, Tryz.ntmps28
  go_wp2_with (go_at_call 62; (with_reducible refine cI.mono ?_); rintro e w5 ⟨o1, n1, c1, o2, n2, c2, rfl, f1, f2, k5⟩; have D5 := D0.below k5 (Nat.le_refl _); obtain ⟨u5, v5, hr5⟩ := D5.r; obtain ⟨z0, z1, z2, z3⟩ := box2 hr5)
  (try simp only [Exit.inBlock, Exit.then])
  refine bodyPost_ret (v := .tuple #[.agg #[.slice o1 n1 c1, .slice o2 n2 c2], .int .i64 E]) (by rw [results_cell_tmp rfl]; go_simp) rfl ?_
  exact ⟨o1, n1, c1, o2, n2, c2, rfl, (ft_set (w := w) f1 (by simp) _ _).mono (by simp; omega), (ft_set (w := w) f2 (by simp) _ _).mono (by simp; omega), below_set2 _ _ _ _ D5.bel (by omega) (Nat.le_refl _)⟩

set_option maxHeartbeats 2000000 in
theorem dyad_take (xso xo so ao : Option Addr) (xsn xsc xn xc sn sc an ac : Nat) (sx ax sy ay S A : List Int) (E : Int) (w : World) (hsx : Rd w xso xsn sx) (hax : Rd w xo xn ax) (hsy : Rd w so sn sy) (hay : Rd w ao an ay) (mx : mayA sx ax = 0) (my : mayA sy ay = 0) (hxr : xsn ≤ 1) 
    (hc : ∀ V, Below w.heap.size w V → Calls Tryz.prog 28 #[.agg #[.slice xso xsn xsc, .slice xo xn xc], .agg #[.slice so sn sc, .slice ao an ac]] V fun e w' => Ans V V.heap.size S A E e w') :
    Calls Tryz.prog 5 #[.int .i64 28, .agg #[.slice xso xsn xsc, .slice xo xn xc], .agg #[.slice so sn sc, .slice ao an ac]] w fun e w' => Ans w w.heap.size S A E e w' := by
  have D0 := dw_start w xso xsn xsc xo xn xc so sn sc ao an ac
  have cM1 := mayA_any xso xo xsn xsc xn xc sx ax _ (hsx.below D0.bel (Nat.le_refl _)) (hax.below D0.bel (Nat.le_refl _))
  have cM2 := fun V (D : Dw w V xso xsn xsc xo xn xc so sn sc ao an ac) => mayA_any so ao sn sc an ac sy ay V (hsy.below D.bel (Nat.le_refl _)) (hay.below D.bel (Nat.le_refl _))
  rw [mx] at cM1
  rw [my] at cM2
  have cD := fun V => dyadOf_yes 28 4 V (by omega) rfl (by intro j hj; match j, hj with | 0, _ => exact (by decide : dOp 0 ≠ 28) | 1, _ => exact (by decide : dOp 1 ≠ 28) | 2, _ => exact (by decide : dOp 2 ≠ 28) | 3, _ => exact (by decide : dOp 3 ≠ 28))
  rw [show dFnN 4 = 28 from rfl, show dNum 4 = true from rfl] at cD
  have t0 : decide (1 < xsn) = false := by simp; omega
  obtain ⟨x0, x1, x2, x3, _⟩ := D0.all
  clear mx my
  go_enter Tryz.func5, Tryz.ntmps5
  go_wp2_with (first
    | (go_at_call 16; (with_reducible refine cM1.mono ?_); rintro e w1 ⟨rfl, k1⟩; have D1 := D0.below k1 (Nat.le_refl _); obtain ⟨y0, y1, y2, y3, _⟩ := D1.all)
    | (go_at_call 16; (with_reducible refine (cM2 w1 D1).mono ?_); rintro e w2 ⟨rfl, k2⟩; have D2 := D1.below k2 (Nat.le_refl _))
    | (go_at_call 17; (with_reducible refine (cD w2).mono ?_); rintro e w3 ⟨rfl, k3⟩; have D3 := D2.below k3 (Nat.le_refl _); have D4 := D3.below (box_below w3 (.cells #[.int .i64 28, .bool true, .func (.func 28) #[] #[]] 45)) (Nat.le_refl _); obtain ⟨v0, v1, v2, v3, _⟩ := D4.all)
    | (go_at_call 28; (with_reducible refine (hc _ D4.bel).mono ?_); rintro e w5 ⟨o1, n1, c1, o2, n2, c2, rfl, f1, f2, k5⟩; have D5 := D4.below k5 (Nat.le_refl _); obtain ⟨u5, v5, hr5⟩ := D5.r; obtain ⟨z0, z1, z2, z3⟩ := box2 hr5))
  (try simp only [Exit.inBlock, Exit.then])
  refine bodyPost_ret (v := .tuple #[.agg #[.slice o1 n1 c1, .slice o2 n2 c2], .int .i64 E]) (by rw [results_cell_tmp rfl]; go_simp) rfl ?_
  have s3 := D3.sz
  exact ⟨o1, n1, c1, o2, n2, c2, rfl, (ft_set (w := w) f1 (by simp; omega) _ _).mono (by simp; omega), (ft_set (w := w) f2 (by simp; omega) _ _).mono (by simp; omega), below_set2 _ _ _ _ D5.bel (by omega) (Nat.le_refl _)⟩

set_option maxHeartbeats 2000000 in
theorem dyad_ravel (xso xo so ao : Option Addr) (xsn xsc xn xc sn sc an ac : Nat) (sx ax sy ay S A : List Int) (E : Int) (w : World) (hsx : Rd w xso xsn sx) (hax : Rd w xo xn ax) (hsy : Rd w so sn sy) (hay : Rd w ao an ay) (mx : mayA sx ax = 0) (my : mayA sy ay = 0) 
    (hc : ∀ V, Below w.heap.size w V → Calls Tryz.prog 25 #[.agg #[.slice xso xsn xsc, .slice xo xn xc], .agg #[.slice so sn sc, .slice ao an ac]] V fun e w' => Ans V V.heap.size S A E e w') :
    Calls Tryz.prog 5 #[.int .i64 24, .agg #[.slice xso xsn xsc, .slice xo xn xc], .agg #[.slice so sn sc, .slice ao an ac]] w fun e w' => Ans w w.heap.size S A E e w' := by
  have D0 := dw_start w xso xsn xsc xo xn xc so sn sc ao an ac
  have cM1 := mayA_any xso xo xsn xsc xn xc sx ax _ (hsx.below D0.bel (Nat.le_refl _)) (hax.below D0.bel (Nat.le_refl _))
  have cM2 := fun V (D : Dw w V xso xsn xsc xo xn xc so sn sc ao an ac) => mayA_any so ao sn sc an ac sy ay V (hsy.below D.bel (Nat.le_refl _)) (hay.below D.bel (Nat.le_refl _))
  rw [mx] at cM1
  rw [my] at cM2
  have cD := fun V => dyadOf_yes 24 1 V (by omega) rfl (by intro j hj; match j, hj with | 0, _ => exact (by decide : dOp 0 ≠ 24))
  rw [show dFnN 1 = 25 from rfl, show dNum 1 = false from rfl] at cD
  obtain ⟨x0, x1, x2, x3, _⟩ := D0.all
  clear mx my
  go_enter Tryz.func5, Tryz.ntmps5
  go_wp2_with (first
    | (go_at_call 16; (with_reducible refine cM1.mono ?_); rintro e w1 ⟨rfl, k1⟩; have D1 := D0.below k1 (Nat.le_refl _); obtain ⟨y0, y1, y2, y3, _⟩ := D1.all)
    | (go_at_call 16; (with_reducible refine (cM2 w1 D1).mono ?_); rintro e w2 ⟨rfl, k2⟩; have D2 := D1.below k2 (Nat.le_refl _))
    | (go_at_call 17; (with_reducible refine (cD w2).mono ?_); rintro e w3 ⟨rfl, k3⟩; have D3 := D2.below k3 (Nat.le_refl _); have D4 := D3.below (box_below w3 (.cells #[.int .i64 24, .bool false, .func (.func 25) #[] #[]] 45)) (Nat.le_refl _); obtain ⟨v0, v1, v2, v3, _⟩ := D4.all)
    | (go_at_call 25; (with_reducible refine (hc _ D4.bel).mono ?_); rintro e w5 ⟨o1, n1, c1, o2, n2, c2, rfl, f1, f2, k5⟩; have D5 := D4.below k5 (Nat.le_refl _); obtain ⟨u5, v5, hr5⟩ := D5.r; obtain ⟨z0, z1, z2, z3⟩ := box2 hr5))
  (try simp only [Exit.inBlock, Exit.then])
  refine bodyPost_ret (v := .tuple #[.agg #[.slice o1 n1 c1, .slice o2 n2 c2], .int .i64 E]) (by rw [results_cell_tmp rfl]; go_simp) rfl ?_
  have s3 := D3.sz
  exact ⟨o1, n1, c1, o2, n2, c2, rfl, (ft_set (w := w) f1 (by simp; omega) _ _).mono (by simp; omega), (ft_set (w := w) f2 (by simp; omega) _ _).mono (by simp; omega), below_set2 _ _ _ _ D5.bel (by omega) (Nat.le_refl _)⟩

set_option maxHeartbeats 2000000 in
theorem dyad_shape (xso xo so ao : Option Addr) (xsn xsc xn xc sn sc an ac : Nat) (sx ax sy ay S A : List Int) (E : Int) (w : World) (hsx : Rd w xso xsn sx) (hax : Rd w xo xn ax) (hsy : Rd w so sn sy) (hay : Rd w ao an ay) (mx : mayA sx ax = 0) (my : mayA sy ay = 0) (hxr : xsn ≤ 1) 
    (hc : ∀ V, Below w.heap.size w V → Calls Tryz.prog 24 #[.agg #[.slice xso xsn xsc, .slice xo xn xc], .agg #[.slice so sn sc, .slice ao an ac]] V fun e w' => Ans V V.heap.size S A E e w') :
    Calls Tryz.prog 5 #[.int .i64 23, .agg #[.slice xso xsn xsc, .slice xo xn xc], .agg #[.slice so sn sc, .slice ao an ac]] w fun e w' => Ans w w.heap.size S A E e w' := by
  have D0 := dw_start w xso xsn xsc xo xn xc so sn sc ao an ac
  have cM1 := mayA_any xso xo xsn xsc xn xc sx ax _ (hsx.below D0.bel (Nat.le_refl _)) (hax.below D0.bel (Nat.le_refl _))
  have cM2 := fun V (D : Dw w V xso xsn xsc xo xn xc so sn sc ao an ac) => mayA_any so ao sn sc an ac sy ay V (hsy.below D.bel (Nat.le_refl _)) (hay.below D.bel (Nat.le_refl _))
  rw [mx] at cM1
  rw [my] at cM2
  have cD := fun V => dyadOf_yes 23 0 V (by omega) rfl (by intro j hj; match j, hj with  | _, h => omega)
  rw [show dFnN 0 = 24 from rfl, show dNum 0 = true from rfl] at cD
  have t0 : decide (1 < xsn) = false := by simp; omega
  obtain ⟨x0, x1, x2, x3, _⟩ := D0.all
  clear mx my
  go_enter Tryz.func5, Tryz.ntmps5
  go_wp2_with (first
    | (go_at_call 16; (with_reducible refine cM1.mono ?_); rintro e w1 ⟨rfl, k1⟩; have D1 := D0.below k1 (Nat.le_refl _); obtain ⟨y0, y1, y2, y3, _⟩ := D1.all)
    | (go_at_call 16; (with_reducible refine (cM2 w1 D1).mono ?_); rintro e w2 ⟨rfl, k2⟩; have D2 := D1.below k2 (Nat.le_refl _))
    | (go_at_call 17; (with_reducible refine (cD w2).mono ?_); rintro e w3 ⟨rfl, k3⟩; have D3 := D2.below k3 (Nat.le_refl _); have D4 := D3.below (box_below w3 (.cells #[.int .i64 23, .bool true, .func (.func 24) #[] #[]] 45)) (Nat.le_refl _); obtain ⟨v0, v1, v2, v3, _⟩ := D4.all)
    | (go_at_call 24; (with_reducible refine (hc _ D4.bel).mono ?_); rintro e w5 ⟨o1, n1, c1, o2, n2, c2, rfl, f1, f2, k5⟩; have D5 := D4.below k5 (Nat.le_refl _); obtain ⟨u5, v5, hr5⟩ := D5.r; obtain ⟨z0, z1, z2, z3⟩ := box2 hr5))
  (try simp only [Exit.inBlock, Exit.then])
  refine bodyPost_ret (v := .tuple #[.agg #[.slice o1 n1 c1, .slice o2 n2 c2], .int .i64 E]) (by rw [results_cell_tmp rfl]; go_simp) rfl ?_
  have s3 := D3.sz
  exact ⟨o1, n1, c1, o2, n2, c2, rfl, (ft_set (w := w) f1 (by simp; omega) _ _).mono (by simp; omega), (ft_set (w := w) f2 (by simp; omega) _ _).mono (by simp; omega), below_set2 _ _ _ _ D5.bel (by omega) (Nat.le_refl _)⟩

set_option maxHeartbeats 2000000 in
theorem monad_tran (so ao : Option Addr) (sn sc an ac : Nat) (sy ay S A : List Int) (E : Int) (w : World) (hsy : Rd w so sn sy) (hay : Rd w ao an ay) (my : mayA sy ay = 0)
    (hc : ∀ V, Below w.heap.size w V → Calls Tryz.prog 44 #[.agg #[.slice so sn sc, .slice ao an ac]] V fun e w' => Ans V V.heap.size S A E e w') :
    Calls Tryz.prog 10 #[.int .i64 33, .agg #[.slice so sn sc, .slice ao an ac]] w fun e w' => Ans w w.heap.size S A E e w' := by
  have U0 := un_start w so sn sc ao an ac
  have s0 := U0.sz
  have cM1 := mayA_any so ao sn sc an ac sy ay _ (hsy.below U0.bel (Nat.le_refl _)) (hay.below U0.bel (Nat.le_refl _))
  rw [my] at cM1
  have cD := fun V => monadOf_yes 33 10 V (by omega) rfl (by intro j hj; match j, hj with | 0, _ => exact (by decide : mOp 0 ≠ 33) | 1, _ => exact (by decide : mOp 1 ≠ 33) | 2, _ => exact (by decide : mOp 2 ≠ 33) | 3, _ => exact (by decide : mOp 3 ≠ 33) | 4, _ => exact (by decide : mOp 4 ≠ 33) | 5, _ => exact (by decide : mOp 5 ≠ 33) | 6, _ => exact (by decide : mOp 6 ≠ 33) | 7, _ => exact (by decide : mOp 7 ≠ 33) | 8, _ => exact (by decide : mOp 8 ≠ 33) | 9, _ => exact (by decide : mOp 9 ≠ 33))
  rw [show mFnN 10 = 44 from rfl] at cD
  obtain ⟨x0, x1, _⟩ := U0.all
  clear my
  go_enter Tryz.func10, Tryz.ntmps10
  go_wp2_with (first
    | (go_at_call 16; (with_reducible refine cM1.mono ?_); rintro e w1 ⟨rfl, k1⟩; have U1 := U0.below k1 s0; have s1 := U1.sz)
    | (go_at_call 20; (with_reducible refine (cD w1).mono ?_); rintro e w3 ⟨rfl, k3⟩; have U3 := U1.below k3 s1; have s3 := U3.sz; have U4 := U3.below (box_below w3 (.cells #[.int .i64 33, .func (.func 44) #[] #[]] 53)) s3; obtain ⟨v0, v1, _⟩ := U4.all)
    | (go_at_call 44; (with_reducible refine (hc _ U4.bel).mono ?_); rintro e w5 ⟨o1, n1, c1, o2, n2, c2, rfl, f1, f2, k5⟩; have U5 := U4.below k5 U4.sz; obtain ⟨u5, v5, hr5⟩ := U5.r; obtain ⟨z0, z1, z2, z3⟩ := box2 hr5))
  (try simp only [Exit.inBlock, Exit.then])
  refine bodyPost_ret (v := .tuple #[.agg #[.slice o1 n1 c1, .slice o2 n2 c2], .int .i64 E]) (by rw [results_cell_tmp rfl]; go_simp) rfl ?_
  exact ⟨o1, n1, c1, o2, n2, c2, rfl, (ft_set (w := w) f1 (by simp; omega) _ _).mono (by simp; omega), (ft_set (w := w) f2 (by simp; omega) _ _).mono (by simp; omega), below_set2 _ _ _ _ U5.bel (by omega) (Nat.le_refl _)⟩

theorem has_28_2 (w : World) : Calls Tryz.prog 13 #[.int .i64 28, .int .i64 2] w fun e w' => e = .returned (.bool true) ∧ Below w.heap.size w w' := by
  have cD := fun V => dyadOf_yes 28 4 V (by omega) rfl (by intro j hj; match j, hj with | 0, _ => exact (by decide : dOp 0 ≠ 28) | 1, _ => exact (by decide : dOp 1 ≠ 28) | 2, _ => exact (by decide : dOp 2 ≠ 28) | 3, _ => exact (by decide : dOp 3 ≠ 28))
  go_enter Tryz.func13, Tryz.ntmps13
  go_wp2_with (go_at_call 17; (with_reducible refine (cD _).mono ?_); rintro e w3 ⟨rfl, k3⟩)
  go_ret
  exact ⟨rfl, k3⟩
theorem has_30_2 (w : World) : Calls Tryz.prog 13 #[.int .i64 30, .int .i64 2] w fun e w' => e = .returned (.bool false) ∧ Below w.heap.size w w' := by
  have cD := fun V => dyadOf_no 30 V (by intro j hj; match j, hj with | 0, _ => exact (by decide : dOp 0 ≠ 30) | 1, _ => exact (by decide : dOp 1 ≠ 30) | 2, _ => exact (by decide : dOp 2 ≠ 30) | 3, _ => exact (by decide : dOp 3 ≠ 30) | 4, _ => exact (by decide : dOp 4 ≠ 30) | 5, _ => exact (by decide : dOp 5 ≠ 30) | 6, _ => exact (by decide : dOp 6 ≠ 30) | 7, _ => exact (by decide : dOp 7 ≠ 30) | 8, _ => exact (by decide : dOp 8 ≠ 30) | 9, _ => exact (by decide : dOp 9 ≠ 30))
  go_enter Tryz.func13, Tryz.ntmps13
  go_wp2_with (go_at_call 17; (with_reducible refine (cD _).mono ?_); rintro e w3 ⟨rfl, k3⟩)
  go_ret
  exact ⟨rfl, k3⟩
theorem has_30_1 (w : World) : Calls Tryz.prog 13 #[.int .i64 30, .int .i64 1] w fun e w' => e = .returned (.bool true) ∧ Below w.heap.size w w' := by
  have cD := fun V => monadOf_yes 30 6 V (by omega) rfl (by intro j hj; match j, hj with | 0, _ => exact (by decide : mOp 0 ≠ 30) | 1, _ => exact (by decide : mOp 1 ≠ 30) | 2, _ => exact (by decide : mOp 2 ≠ 30) | 3, _ => exact (by decide : mOp 3 ≠ 30) | 4, _ => exact (by decide : mOp 4 ≠ 30) | 5, _ => exact (by decide : mOp 5 ≠ 30))
  go_enter Tryz.func13, Tryz.ntmps13
  go_wp2_with (go_at_call 20; (with_reducible refine (cD _).mono ?_); rintro e w3 ⟨rfl, k3⟩)
  go_ret
  exact ⟨rfl, k3⟩
theorem lack_30 (w : World) : Calls Tryz.prog 18 #[.int .i64 30] w fun e w' => e = .returned (.int .i64 16) ∧ Below w.heap.size w w' := by
  go_enter Tryz.func18, Tryz.ntmps18
  go_wp2_with (go_at_call 13; (with_reducible refine (has_30_1 _).mono ?_); rintro e w3 ⟨rfl, k3⟩)
  go_ret
  exact ⟨rfl, k3⟩
set_option maxHeartbeats 2000000 in
theorem dyad_tail (xso xo so ao : Option Addr) (xsn xsc xn xc sn sc an ac : Nat) (sx ax sy ay : List Int) (w : World) (hsx : Rd w xso xsn sx) (hax : Rd w xo xn ax) (hsy : Rd w so sn sy) (hay : Rd w ao an ay) (mx : mayA sx ax = 0) (my : mayA sy ay = 0) :
    Calls Tryz.prog 5 #[.int .i64 30, .agg #[.slice xso xsn xsc, .slice xo xn xc], .agg #[.slice so sn sc, .slice ao an ac]] w fun e w' => e = .returned (.tuple #[.agg #[.slice none 0 0, .slice none 0 0], .int .i64 16]) ∧ Below w.heap.size w w' := by
  have D0 := dw_start w xso xsn xsc xo xn xc so sn sc ao an ac
  have cM1 := mayA_any xso xo xsn xsc xn xc sx ax _ (hsx.below D0.bel (Nat.le_refl _)) (hax.below D0.bel (Nat.le_refl _))
  have cM2 := fun V (D : Dw w V xso xsn xsc xo xn xc so sn sc ao an ac) => mayA_any so ao sn sc an ac sy ay V (hsy.below D.bel (Nat.le_refl _)) (hay.below D.bel (Nat.le_refl _))
  rw [mx] at cM1
  rw [my] at cM2
  have cD := fun V => dyadOf_no 30 V (by intro j hj; match j, hj with | 0, _ => exact (by decide : dOp 0 ≠ 30) | 1, _ => exact (by decide : dOp 1 ≠ 30) | 2, _ => exact (by decide : dOp 2 ≠ 30) | 3, _ => exact (by decide : dOp 3 ≠ 30) | 4, _ => exact (by decide : dOp 4 ≠ 30) | 5, _ => exact (by decide : dOp 5 ≠ 30) | 6, _ => exact (by decide : dOp 6 ≠ 30) | 7, _ => exact (by decide : dOp 7 ≠ 30) | 8, _ => exact (by decide : dOp 8 ≠ 30) | 9, _ => exact (by decide : dOp 9 ≠ 30))
  obtain ⟨x0, x1, x2, x3, _⟩ := D0.all
  clear mx my
  go_enter Tryz.func5, Tryz.ntmps5
  go_wp2_with (first
    | (go_at_call 16; (with_reducible refine cM1.mono ?_); rintro e w1 ⟨rfl, k1⟩; have D1 := D0.below k1 (Nat.le_refl _); obtain ⟨y0, y1, y2, y3, _⟩ := D1.all)
    | (go_at_call 16; (with_reducible refine (cM2 w1 D1).mono ?_); rintro e w2 ⟨rfl, k2⟩; have D2 := D1.below k2 (Nat.le_refl _))
    | (go_at_call 17; (with_reducible refine (cD w2).mono ?_); rintro e w3 ⟨rfl, k3⟩; have D3 := D2.below k3 (Nat.le_refl _); have D4 := D3.below (box_below w3 (.cells #[.int .i64 0, .bool false, .nilFunc] 45)) (Nat.le_refl _))
    | (go_at_call 18; (with_reducible refine (lack_30 _).mono ?_); rintro e w5 ⟨rfl, k5⟩; have D5 := D4.below k5 (Nat.le_refl _); obtain ⟨u5, v5, hr5⟩ := D5.r; obtain ⟨z0, z1, z2, z3⟩ := box2 hr5))
  (try simp only [Exit.inBlock, Exit.then])
  refine bodyPost_ret (v := .tuple #[.agg #[.slice none 0 0, .slice none 0 0], .int .i64 16]) (by rw [results_cell_tmp rfl]; go_simp) rfl ?_
  exact ⟨rfl, below_set2 _ _ _ _ D5.bel (by omega) (Nat.le_refl _)⟩
end Go.Proofs.YtldhochafkcpiaaGreat
