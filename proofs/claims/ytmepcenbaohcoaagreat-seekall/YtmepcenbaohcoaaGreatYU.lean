
/- Contracts of package seek: items sorted; both valences of PUp and PDown. -/

import Derived.Test.YtmepcenbaohcoaaGreatYP

namespace Go.Proofs.YtmepcenbaohcoaaGreat

open Go.RowKit

set_option linter.unusedVariables false

theorem itN_tal {sh : List Int} (h : mayF sh = 0) : ((itN sh : Nat) : Int) = tal sh := by
  have hb := tal_bd h
  unfold itN cun ahd tal
  match sh with
  | [] => rfl
  | a :: r =>
    have e : min 1 (a :: r).length = 1 := by simp
    rw [e, if_neg (by simp)]
    have : pr (List.take 1 (a :: r)) = a := by simp [pr]
    rw [this]
    have : nth (a :: r) 0 = a := rfl
    rw [this]
    have h0 := (mayF_zero h).1 0 (by simp)
    rw [this] at h0
    omega
theorem itN_le {sh : List Int} (h : mayF sh = 0) : itN sh ≤ 4096 := by
  have := itN_tal h
  have := tal_bd h
  omega

set_option maxHeartbeats 2000000 in
theorem rowOf_38 (w : World) :
    Calls Tryz.prog 15 #[.int .i64 38] w fun e w' => e = .returned (.tuple #[.agg #[.int .i64 38, .func (.func 46) #[] #[], .func (.func 47) #[] #[]], .bool true]) ∧ Below w.heap.size w w' := by
  have hd := rows_any (w.alloc (.cells #[.int .i64 0, .nilFunc, .nilFunc] 47))
  have T := seekTab (allocNew (w.alloc (.cells #[.int .i64 0, .nilFunc, .nilFunc] 47)) (.cells seekRow.toArray 47))
  have R := ((box_below (w.alloc (.cells #[.int .i64 0, .nilFunc, .nilFunc] 47)) (.cells seekRow.toArray 47)).block w.heap.size (by simp)).trans (allocNew w (.cells #[.int .i64 0, .nilFunc, .nilFunc] 47))
  have B0 : Below w.heap.size w ((w.alloc (.cells #[.int .i64 0, .nilFunc, .nilFunc] 47)).alloc (.cells seekRow.toArray 47)) := (box_below w _).trans ((box_below _ _).mono (by simp))
  simp only [World.size_alloc] at T hd
  generalize hW2 : (w.alloc (.cells #[.int .i64 0, .nilFunc, .nilFunc] 47)).alloc (.cells seekRow.toArray 47) = W2 at *
  have hs2 : W2.heap.size = w.heap.size + 2 := by rw [← hW2]; simp
  clear hW2
  go_enter Tryz.func15, Tryz.ntmps15
  go_wp2_with (go_at_call 21; (with_reducible refine hd.mono ?_); rintro e w' ⟨rfl, hw⟩; rw [hw]; clear hw w' hd)
  go_loopw [8] (fun i V => ∃ j : Nat, j ≤ 7 ∧ i = .int .i64 (j : Nat) ∧ Below W2.heap.size W2 V) (fun i _ => 10 - (intOf i).toNat)
  case atStart => exact ⟨0, Nat.zero_le _, rfl, Below.refl _ _⟩
  case round =>
    obtain ⟨j, hj, rfl, BV⟩ := hrel
    obtain ⟨r0, r1, r2⟩ := T j (by omega)
    have lt := World.block_lt_of_cell? W2 _ r0
    have y0 := (BV.cell (p := ⟨w.heap.size + 1, j * 3, none⟩) lt).trans r0; have y1 := (BV.cell (p := ⟨w.heap.size + 1, j * 3 + 1, none⟩) lt).trans r1; have y2 := (BV.cell (p := ⟨w.heap.size + 1, j * 3 + 2, none⟩) lt).trans r2
    have bj : (j : Int) < 10 := by omega
    have tj : decide ((j : Int) < 10) = true := by simp; omega
    by_cases hlt : j < 7
    · have hne : (sOp j == 38) = false := by
        match j, hlt with
        | 0, _ => rfl
        | 1, _ => rfl
        | 2, _ => rfl
        | 3, _ => rfl
        | 4, _ => rfl
        | 5, _ => rfl
        | 6, _ => rfl
      generalize sOp j = OJ at *
      rcases sRow_kinds j (by omega) with ⟨e1, G, e2⟩ | ⟨e2, F, e1⟩ | ⟨F, G, e1, e2⟩
      all_goals
        rw [e1] at y1
        rw [e2] at y2
        clear e1 e2
        go_wp2
        go_roundw
        case rel => exact ⟨j + 1, by omega, by go_num, BV.trans ((box_below wr _).mono BV.size)⟩
        case measure => simp [intOf]; omega
    · obtain rfl : j = 7 := by omega
      rw [show sOp 7 = 38 from rfl] at y0
      rw [show sM 7 = .func (.func 46) #[] #[] from rfl] at y1
      rw [show sD 7 = .func (.func 47) #[] #[] from rfl] at y2
      have BV2 := BV.trans ((box_below wr (.cells #[.int .i64 38, .func (.func 46) #[] #[], .func (.func 47) #[] #[]] 47)).mono BV.size)
      have RV := (BV2.block w.heap.size (by omega)).trans R
      obtain ⟨q0, q1, q2, z0, z1, z2⟩ := bx3Q RV
      have BB := B0.trans (BV2.mono (by omega))
      clear T R
      go_wp2
      (try simp only [Exit.inBlock, Exit.then])
      refine bodyPost_ret (v := .tuple #[.agg #[.int .i64 38, .func (.func 46) #[] #[], .func (.func 47) #[] #[]], .bool true]) (by rw [results_cell_tmp rfl]; go_simp) rfl ?_
      exact ⟨rfl, below_set3Q _ _ _ _ _ _ BB (Nat.le_refl _)⟩

set_option maxHeartbeats 4000000 in
theorem sortedUp (so ao uo bo : Option Addr) (sn sc an ac un uc bn bc : Nat) (sh at' th bt' : List Int) (w : World) (h : Rd w so sn sh) (hs : Sl so sn sc) (g : Rd w ao an at') (gs : Sl ao an ac) (h0 : mayA sh at' = 0) (h2 : Rd w uo un th) (hs2 : Sl uo un uc) (g2 : Rd w bo bn bt') (gs2 : Sl bo bn bc) (h02 : mayA th bt' = 0) (het : tal sh = tal th) :
    Calls Tryz.prog 72 #[.agg #[.slice so sn sc, .slice ao an ac], .agg #[.slice uo un uc, .slice bo bn bc], .func (.func 70) #[] #[]] w fun e w' => AnsQ w (fun S A => ∃ ps, Pls (cUp (itX th bt')) (itN th) ps ∧ S = (itN th : Int) :: sh.drop 1 ∧ A = chA (itX sh at') ps (itN th)) 0 e w' := by
  have D0 := du_startQ w so sn sc ao an ac uo un uc bo bn bc
  have D1 : DuQ w (((w.alloc (.cells #[.slice so sn sc, .slice ao an ac] 30)).alloc (.cells #[.slice uo un uc, .slice bo bn bc] 30)).alloc (.cells #[.slice none 0 0, .slice none 0 0] 30)).drew so sn sc ao an ac uo un uc bo bn bc := D0.below (B := w.heap.size + 3) (Below.refl _ _).drew (Nat.le_refl _)
  have ci1 := fun V (D : DuQ w V so sn sc ao an ac uo un uc bo bn bc) => items_any so ao sn sc an ac sh at' V (h.below D.bel (Nat.le_refl _)) (g.below D.bel (Nat.le_refl _))
  have ci2 := fun V (D : DuQ w V so sn sc ao an ac uo un uc bo bn bc) => items_any uo bo un uc bn bc th bt' V (h2.below D.bel (Nat.le_refl _)) (g2.below D.bel (Nat.le_refl _))
  rw [show itm sh at' = tal sh from if_pos h0] at ci1
  rw [show itm th bt' = tal th from if_pos h02, ← het] at ci2
  have hne : (tal sh != tal sh) = false := by simp
  have hit := fun V (D : DuQ w V so sn sc ao an ac uo un uc bo bn bc) => itemsOf_any uo bo un uc bn bc th bt' w V D.bel h2 hs2 g2 gs2 h02
  have hN : itN sh = itN th := by
    have a := itN_tal (mayA_zero h0).1
    have b := itN_tal (mayA_zero h02).1
    omega
  have hch := fun V (D : DuQ w V so sn sc ao an ac uo un uc bo bn bc) po pc ps (hp : Rd V po (itN th) ps) (P : Pls (cUp (itX th bt')) (itN th) ps) => chosen_any so ao sn sc an ac sh at' po (itN th) pc ps V (h.below D.bel (Nat.le_refl _)) hs (g.below D.bel (Nat.le_refl _)) gs h0 hp (itN_le (mayA_zero h02).1) (by rw [hN]; exact P.inn)
  have al : ∀ V, DuQ w V so sn sc ao an ac uo un uc bo bn bc → V.cell? ⟨w.heap.size, 0, none⟩ = some (.slice so sn sc) ∧ V.cell? ⟨w.heap.size, 1, none⟩ = some (.slice ao an ac) ∧ V.cell? ⟨w.heap.size + 1, 0, none⟩ = some (.slice uo un uc) ∧ V.cell? ⟨w.heap.size + 1, 1, none⟩ = some (.slice bo bn bc) := fun V D => ⟨(box2 D.x).1, (box2 D.x).2.1, (box2 D.y).1, (box2 D.y).2.1⟩
  generalize tal sh = T at *
  generalize itN th = n at *
  generalize itX th bt' = ys at *
  generalize itX sh at' = xs at *
  clear hN het
  go_enter Tryz.func72, Tryz.ntmps72
  go_wp2
  go_region_held3 (fun V => V.cell? ⟨w.heap.size, 0, none⟩ = some (.slice so sn sc) ∧ V.cell? ⟨w.heap.size, 1, none⟩ = some (.slice ao an ac) ∧ V.cell? ⟨w.heap.size + 1, 0, none⟩ = some (.slice uo un uc) ∧ V.cell? ⟨w.heap.size + 1, 1, none⟩ = some (.slice bo bn bc)) (first | exact al _ D1 | exact al _ D2 | exact al _ D3)
    (first
      | (go_at_call 89; (with_reducible refine (ci1 _ D1).mono ?_); rintro e w1 ⟨rfl, k1⟩; have D2 := D1.below k1 D1.sz)
      | (go_at_call 89; (with_reducible refine (ci2 w1 D2).mono ?_); rintro e w2 ⟨rfl, k2⟩; have D3 := D2.below k2 D2.sz))
  go_wp2
  have D4 : DuQ w w2.drew so sn sc ao an ac uo un uc bo bn bc := D3.below (B := w.heap.size + 3) (Below.refl _ _).drew (Nat.le_refl _)
  clear ci1 ci2 D1 D2 D0
  go_region_held3 (fun V => V.cell? ⟨w.heap.size, 0, none⟩ = some (.slice so sn sc) ∧ V.cell? ⟨w.heap.size, 1, none⟩ = some (.slice ao an ac) ∧ V.cell? ⟨w.heap.size + 1, 0, none⟩ = some (.slice uo un uc) ∧ V.cell? ⟨w.heap.size + 1, 1, none⟩ = some (.slice bo bn bc)) (first | exact al _ D4 | exact al _ D5 | exact al _ D6 | exact al _ D7 | exact S8)
    (first
      | (go_at_call 71; (with_reducible refine (hit _ D4).mono ?_); rintro e w3 ⟨gg, rfl, lg, lb, C1⟩; have D5 := D4.below lb D4.sz)
      | (go_at_call 70; (with_reducible refine (rising_any _ _ _ _ w3 C1.as C1.n4).mono ?_); rintro e w4 ⟨g4, ps, rfl, f4, p4, k4⟩; have D6 := D5.below k4 D5.sz)
      | (go_at_call 65; (with_reducible refine (hch w4 D6 _ _ _ f4.rd p4).mono ?_); rintro e w5 ⟨o1, n1, c1, o2, n2, c2, rfl, F1, F2, k5⟩; have D7 := D6.below k5 D6.sz; have s6 := D6.sz; have s7 := D7.sz; obtain ⟨r0, r1, r2, r3⟩ := box2 D7.r; have kk := set2 w5 (w.heap.size + 1 + 1) 0 1 (.slice o1 n1 c1) (.slice o2 n2 c2); have xx := box2 ((kk.block w.heap.size (by omega) (fun e => by injection e with e; omega)).trans D7.x); have yy := box2 ((kk.block (w.heap.size + 1) (by omega) (fun e => by injection e with e; omega)).trans D7.y); have S8 : _ ∧ _ ∧ _ ∧ _ := ⟨xx.1, xx.2.1, yy.1, yy.2.1⟩))
  go_wp2
  (try simp only [Exit.inBlock, Exit.then])
  refine bodyPost_ret (v := .tuple #[.agg #[.slice o1 n1 c1, .slice o2 n2 c2], .int .i64 0]) (by rw [results_cell_tmp rfl]; go_simp) rfl ?_
  exact ⟨o1, n1, c1, o2, n2, c2, _, _, rfl, (ft_setQ F1 (by omega) _ _).mono (by omega), (ft_setQ F2 (by omega) _ _).mono (by omega), ⟨ps, p4, rfl, rfl⟩, below_set2 _ _ _ _ D7.bel (by omega) (Nat.le_refl _)⟩

set_option maxHeartbeats 2000000 in
theorem sortUp_any (so ao uo bo : Option Addr) (sn sc an ac un uc bn bc : Nat) (sh at' th bt' : List Int) (w : World) (h : Rd w so sn sh) (hs : Sl so sn sc) (g : Rd w ao an at') (gs : Sl ao an ac) (h0 : mayA sh at' = 0) (h2 : Rd w uo un th) (hs2 : Sl uo un uc) (g2 : Rd w bo bn bt') (gs2 : Sl bo bn bc) (h02 : mayA th bt' = 0) (het : tal sh = tal th) :
    Calls Tryz.prog 45 #[.agg #[.slice so sn sc, .slice ao an ac], .agg #[.slice uo un uc, .slice bo bn bc]] w fun e w' => AnsQ w (fun S A => ∃ ps, Pls (cUp (itX th bt')) (itN th) ps ∧ S = (itN th : Int) :: sh.drop 1 ∧ A = chA (itX sh at') ps (itN th)) 0 e w' := by
  have D0 := du_startQ w so sn sc ao an ac uo un uc bo bn bc
  have hso := sortedUp so ao uo bo sn sc an ac un uc bn bc sh at' th bt' _ (h.below D0.bel (Nat.le_refl _)) hs (g.below D0.bel (Nat.le_refl _)) gs h0 (h2.below D0.bel (Nat.le_refl _)) hs2 (g2.below D0.bel (Nat.le_refl _)) gs2 h02 het
  obtain ⟨q0, q1, _, _⟩ := box2 D0.x
  obtain ⟨y0, y1, _, _⟩ := box2 D0.y
  go_enter Tryz.func45, Tryz.ntmps45
  go_wp2_with (first
    | (go_at_call 72; (with_reducible refine hso.mono ?_); rintro e w2 ⟨o1, n1, c1, o2, n2, c2, S, A, rfl, F1, F2, hΦ, b2⟩; have s1 := D0.sz; have D2 := D0.below b2 s1; obtain ⟨r0, r1, r2, r3⟩ := box2 D2.r))
  (try simp only [Exit.inBlock, Exit.then])
  refine bodyPost_ret (v := .tuple #[.agg #[.slice o1 n1 c1, .slice o2 n2 c2], .int .i64 0]) (by rw [results_cell_tmp rfl]; go_simp) rfl ?_
  exact ⟨o1, n1, c1, o2, n2, c2, S, A, rfl, (ft_setQ F1 (by omega) _ _).mono (by omega), (ft_setQ F2 (by omega) _ _).mono (by omega), hΦ, below_set2 _ _ _ _ D2.bel (by omega) (Nat.le_refl _)⟩

set_option maxHeartbeats 4000000 in
theorem sortedDown (so ao uo bo : Option Addr) (sn sc an ac un uc bn bc : Nat) (sh at' th bt' : List Int) (w : World) (h : Rd w so sn sh) (hs : Sl so sn sc) (g : Rd w ao an at') (gs : Sl ao an ac) (h0 : mayA sh at' = 0) (h2 : Rd w uo un th) (hs2 : Sl uo un uc) (g2 : Rd w bo bn bt') (gs2 : Sl bo bn bc) (h02 : mayA th bt' = 0) (het : tal sh = tal th) :
    Calls Tryz.prog 72 #[.agg #[.slice so sn sc, .slice ao an ac], .agg #[.slice uo un uc, .slice bo bn bc], .func (.func 73) #[] #[]] w fun e w' => AnsQ w (fun S A => ∃ ps, Pls (cDn (itX th bt')) (itN th) ps ∧ S = (itN th : Int) :: sh.drop 1 ∧ A = chA (itX sh at') ps (itN th)) 0 e w' := by
  have D0 := du_startQ w so sn sc ao an ac uo un uc bo bn bc
  have D1 : DuQ w (((w.alloc (.cells #[.slice so sn sc, .slice ao an ac] 30)).alloc (.cells #[.slice uo un uc, .slice bo bn bc] 30)).alloc (.cells #[.slice none 0 0, .slice none 0 0] 30)).drew so sn sc ao an ac uo un uc bo bn bc := D0.below (B := w.heap.size + 3) (Below.refl _ _).drew (Nat.le_refl _)
  have ci1 := fun V (D : DuQ w V so sn sc ao an ac uo un uc bo bn bc) => items_any so ao sn sc an ac sh at' V (h.below D.bel (Nat.le_refl _)) (g.below D.bel (Nat.le_refl _))
  have ci2 := fun V (D : DuQ w V so sn sc ao an ac uo un uc bo bn bc) => items_any uo bo un uc bn bc th bt' V (h2.below D.bel (Nat.le_refl _)) (g2.below D.bel (Nat.le_refl _))
  rw [show itm sh at' = tal sh from if_pos h0] at ci1
  rw [show itm th bt' = tal th from if_pos h02, ← het] at ci2
  have hne : (tal sh != tal sh) = false := by simp
  have hit := fun V (D : DuQ w V so sn sc ao an ac uo un uc bo bn bc) => itemsOf_any uo bo un uc bn bc th bt' w V D.bel h2 hs2 g2 gs2 h02
  have hN : itN sh = itN th := by
    have a := itN_tal (mayA_zero h0).1
    have b := itN_tal (mayA_zero h02).1
    omega
  have hch := fun V (D : DuQ w V so sn sc ao an ac uo un uc bo bn bc) po pc ps (hp : Rd V po (itN th) ps) (P : Pls (cDn (itX th bt')) (itN th) ps) => chosen_any so ao sn sc an ac sh at' po (itN th) pc ps V (h.below D.bel (Nat.le_refl _)) hs (g.below D.bel (Nat.le_refl _)) gs h0 hp (itN_le (mayA_zero h02).1) (by rw [hN]; exact P.inn)
  have al : ∀ V, DuQ w V so sn sc ao an ac uo un uc bo bn bc → V.cell? ⟨w.heap.size, 0, none⟩ = some (.slice so sn sc) ∧ V.cell? ⟨w.heap.size, 1, none⟩ = some (.slice ao an ac) ∧ V.cell? ⟨w.heap.size + 1, 0, none⟩ = some (.slice uo un uc) ∧ V.cell? ⟨w.heap.size + 1, 1, none⟩ = some (.slice bo bn bc) := fun V D => ⟨(box2 D.x).1, (box2 D.x).2.1, (box2 D.y).1, (box2 D.y).2.1⟩
  generalize tal sh = T at *
  generalize itN th = n at *
  generalize itX th bt' = ys at *
  generalize itX sh at' = xs at *
  clear hN het
  go_enter Tryz.func72, Tryz.ntmps72
  go_wp2
  go_region_held3 (fun V => V.cell? ⟨w.heap.size, 0, none⟩ = some (.slice so sn sc) ∧ V.cell? ⟨w.heap.size, 1, none⟩ = some (.slice ao an ac) ∧ V.cell? ⟨w.heap.size + 1, 0, none⟩ = some (.slice uo un uc) ∧ V.cell? ⟨w.heap.size + 1, 1, none⟩ = some (.slice bo bn bc)) (first | exact al _ D1 | exact al _ D2 | exact al _ D3)
    (first
      | (go_at_call 89; (with_reducible refine (ci1 _ D1).mono ?_); rintro e w1 ⟨rfl, k1⟩; have D2 := D1.below k1 D1.sz)
      | (go_at_call 89; (with_reducible refine (ci2 w1 D2).mono ?_); rintro e w2 ⟨rfl, k2⟩; have D3 := D2.below k2 D2.sz))
  go_wp2
  have D4 : DuQ w w2.drew so sn sc ao an ac uo un uc bo bn bc := D3.below (B := w.heap.size + 3) (Below.refl _ _).drew (Nat.le_refl _)
  clear ci1 ci2 D1 D2 D0
  go_region_held3 (fun V => V.cell? ⟨w.heap.size, 0, none⟩ = some (.slice so sn sc) ∧ V.cell? ⟨w.heap.size, 1, none⟩ = some (.slice ao an ac) ∧ V.cell? ⟨w.heap.size + 1, 0, none⟩ = some (.slice uo un uc) ∧ V.cell? ⟨w.heap.size + 1, 1, none⟩ = some (.slice bo bn bc)) (first | exact al _ D4 | exact al _ D5 | exact al _ D6 | exact al _ D7 | exact S8)
    (first
      | (go_at_call 71; (with_reducible refine (hit _ D4).mono ?_); rintro e w3 ⟨gg, rfl, lg, lb, C1⟩; have D5 := D4.below lb D4.sz)
      | (go_at_call 73; (with_reducible refine (falling_any _ _ _ _ w3 C1.as C1.n4).mono ?_); rintro e w4 ⟨g4, ps, rfl, f4, p4, k4⟩; have D6 := D5.below k4 D5.sz)
      | (go_at_call 65; (with_reducible refine (hch w4 D6 _ _ _ f4.rd p4).mono ?_); rintro e w5 ⟨o1, n1, c1, o2, n2, c2, rfl, F1, F2, k5⟩; have D7 := D6.below k5 D6.sz; have s6 := D6.sz; have s7 := D7.sz; obtain ⟨r0, r1, r2, r3⟩ := box2 D7.r; have kk := set2 w5 (w.heap.size + 1 + 1) 0 1 (.slice o1 n1 c1) (.slice o2 n2 c2); have xx := box2 ((kk.block w.heap.size (by omega) (fun e => by injection e with e; omega)).trans D7.x); have yy := box2 ((kk.block (w.heap.size + 1) (by omega) (fun e => by injection e with e; omega)).trans D7.y); have S8 : _ ∧ _ ∧ _ ∧ _ := ⟨xx.1, xx.2.1, yy.1, yy.2.1⟩))
  go_wp2
  (try simp only [Exit.inBlock, Exit.then])
  refine bodyPost_ret (v := .tuple #[.agg #[.slice o1 n1 c1, .slice o2 n2 c2], .int .i64 0]) (by rw [results_cell_tmp rfl]; go_simp) rfl ?_
  exact ⟨o1, n1, c1, o2, n2, c2, _, _, rfl, (ft_setQ F1 (by omega) _ _).mono (by omega), (ft_setQ F2 (by omega) _ _).mono (by omega), ⟨ps, p4, rfl, rfl⟩, below_set2 _ _ _ _ D7.bel (by omega) (Nat.le_refl _)⟩

set_option maxHeartbeats 2000000 in
theorem sortDown_any (so ao uo bo : Option Addr) (sn sc an ac un uc bn bc : Nat) (sh at' th bt' : List Int) (w : World) (h : Rd w so sn sh) (hs : Sl so sn sc) (g : Rd w ao an at') (gs : Sl ao an ac) (h0 : mayA sh at' = 0) (h2 : Rd w uo un th) (hs2 : Sl uo un uc) (g2 : Rd w bo bn bt') (gs2 : Sl bo bn bc) (h02 : mayA th bt' = 0) (het : tal sh = tal th) :
    Calls Tryz.prog 47 #[.agg #[.slice so sn sc, .slice ao an ac], .agg #[.slice uo un uc, .slice bo bn bc]] w fun e w' => AnsQ w (fun S A => ∃ ps, Pls (cDn (itX th bt')) (itN th) ps ∧ S = (itN th : Int) :: sh.drop 1 ∧ A = chA (itX sh at') ps (itN th)) 0 e w' := by
  have D0 := du_startQ w so sn sc ao an ac uo un uc bo bn bc
  have hso := sortedDown so ao uo bo sn sc an ac un uc bn bc sh at' th bt' _ (h.below D0.bel (Nat.le_refl _)) hs (g.below D0.bel (Nat.le_refl _)) gs h0 (h2.below D0.bel (Nat.le_refl _)) hs2 (g2.below D0.bel (Nat.le_refl _)) gs2 h02 het
  obtain ⟨q0, q1, _, _⟩ := box2 D0.x
  obtain ⟨y0, y1, _, _⟩ := box2 D0.y
  go_enter Tryz.func47, Tryz.ntmps47
  go_wp2_with (first
    | (go_at_call 72; (with_reducible refine hso.mono ?_); rintro e w2 ⟨o1, n1, c1, o2, n2, c2, S, A, rfl, F1, F2, hΦ, b2⟩; have s1 := D0.sz; have D2 := D0.below b2 s1; obtain ⟨r0, r1, r2, r3⟩ := box2 D2.r))
  (try simp only [Exit.inBlock, Exit.then])
  refine bodyPost_ret (v := .tuple #[.agg #[.slice o1 n1 c1, .slice o2 n2 c2], .int .i64 0]) (by rw [results_cell_tmp rfl]; go_simp) rfl ?_
  exact ⟨o1, n1, c1, o2, n2, c2, S, A, rfl, (ft_setQ F1 (by omega) _ _).mono (by omega), (ft_setQ F2 (by omega) _ _).mono (by omega), hΦ, below_set2 _ _ _ _ D2.bel (by omega) (Nat.le_refl _)⟩

set_option maxHeartbeats 2000000 in
theorem monadS_down (so ao : Option Addr) (sn sc an ac : Nat) (sy ay : List Int) (Φ : List Int → List Int → Prop) (E : Int) (w : World) (hsy : Rd w so sn sy) (hay : Rd w ao an ay) (my : mayA sy ay = 0)
    (hc : ∀ V, Below w.heap.size w V → Calls Tryz.prog 46 #[.agg #[.slice so sn sc, .slice ao an ac]] V fun e w' => AnsQ V Φ E e w') :
    Calls Tryz.prog 12 #[.int .i64 38, .agg #[.slice so sn sc, .slice ao an ac]] w fun e w' => AnsQ w Φ E e w' := by
  have U0 := un_startQ w so sn sc ao an ac
  have s0 := U0.sz
  have cM1 := mayA_any so ao sn sc an ac sy ay _ (hsy.below U0.bel (Nat.le_refl _)) (hay.below U0.bel (Nat.le_refl _))
  rw [my] at cM1
  have cD := fun V => rowOf_38 V
  obtain ⟨x0, x1, _, _⟩ := box2 U0.x
  clear my
  have hnil := fun V => nM_eqF V (.func 46) #[] #[]
  go_enter Tryz.func12, Tryz.ntmps12
  go_wp2_with (first
    | (go_at_call 20; (with_reducible refine cM1.mono ?_); rintro e w1 ⟨rfl, k1⟩; have U1 := U0.below k1 s0; have s1 := U1.sz)
    | (go_at_call 15; (with_reducible refine (cD w1).mono ?_); rintro e w3 ⟨rfl, k3⟩; have U3 := U1.below k3 s1; have s3 := U3.sz; have U4 := U3.below (box_below w3 (.cells #[.int .i64 38, .func (.func 46) #[] #[], .func (.func 47) #[] #[]] 47)) s3; obtain ⟨v0, v1, _, _⟩ := box2 U4.x)
    | (go_at_call 46; (with_reducible refine (hc _ U4.bel).mono ?_); rintro e w5 ⟨o1, n1, c1, o2, n2, c2, S, A, rfl, f1, f2, hΦ, k5⟩; have s4 := U4.sz; have U5 := U4.below k5 s4; obtain ⟨z0, z1, z2, z3⟩ := box2 U5.r))
  (try simp only [Exit.inBlock, Exit.then])
  refine bodyPost_ret (v := .tuple #[.agg #[.slice o1 n1 c1, .slice o2 n2 c2], .int .i64 E]) (by rw [results_cell_tmp rfl]; go_simp) rfl ?_
  exact ⟨o1, n1, c1, o2, n2, c2, S, A, rfl, (ft_setQ f1 (by omega) _ _).mono (by omega), (ft_setQ f2 (by omega) _ _).mono (by omega), hΦ, below_set2 _ _ _ _ U5.bel (by omega) (Nat.le_refl _)⟩

set_option maxHeartbeats 2000000 in
theorem dyadS_up (xso xo so ao : Option Addr) (xsn xsc xn xc sn sc an ac : Nat) (sx ax sy ay : List Int) (Φ : List Int → List Int → Prop) (E : Int) (w : World) (hsx : Rd w xso xsn sx) (hax : Rd w xo xn ax) (hsy : Rd w so sn sy) (hay : Rd w ao an ay) (mx : mayA sx ax = 0) (my : mayA sy ay = 0)
    (hc : ∀ V, Below w.heap.size w V → Calls Tryz.prog 45 #[.agg #[.slice xso xsn xsc, .slice xo xn xc], .agg #[.slice so sn sc, .slice ao an ac]] V fun e w' => AnsQ V Φ E e w') :
    Calls Tryz.prog 14 #[.int .i64 37, .agg #[.slice xso xsn xsc, .slice xo xn xc], .agg #[.slice so sn sc, .slice ao an ac]] w fun e w' => AnsQ w Φ E e w' := by
  have D0 := du_startQ w xso xsn xsc xo xn xc so sn sc ao an ac
  have s0 := D0.sz
  have cM1 := mayA_any xso xo xsn xsc xn xc sx ax _ (hsx.below D0.bel (Nat.le_refl _)) (hax.below D0.bel (Nat.le_refl _))
  have cM2 := fun V (D : DuQ w V xso xsn xsc xo xn xc so sn sc ao an ac) => mayA_any so ao sn sc an ac sy ay V (hsy.below D.bel (Nat.le_refl _)) (hay.below D.bel (Nat.le_refl _))
  rw [mx] at cM1
  rw [my] at cM2
  have cD := fun V => rowOf_37 V
  obtain ⟨x0, x1, _, _⟩ := box2 D0.x
  obtain ⟨x2, x3, _, _⟩ := box2 D0.y
  clear mx my
  have hnil := fun V => nD_eqF V (.func 45) #[] #[]
  go_enter Tryz.func14, Tryz.ntmps14
  go_wp2_with (first
    | (go_at_call 20; (with_reducible refine cM1.mono ?_); rintro e w1 ⟨rfl, k1⟩; have D1 := D0.below k1 s0; have s1 := D1.sz; obtain ⟨y0, y1, _, _⟩ := box2 D1.x; obtain ⟨y2, y3, _, _⟩ := box2 D1.y)
    | (go_at_call 20; (with_reducible refine (cM2 w1 D1).mono ?_); rintro e w2 ⟨rfl, k2⟩; have D2 := D1.below k2 s1; have s2 := D2.sz)
    | (go_at_call 15; (with_reducible refine (cD w2).mono ?_); rintro e w3 ⟨rfl, k3⟩; have D3 := D2.below k3 s2; have s3 := D3.sz; have D4 := D3.below (box_below w3 (.cells #[.int .i64 37, .func (.func 44) #[] #[], .func (.func 45) #[] #[]] 47)) s3; obtain ⟨v0, v1, _, _⟩ := box2 D4.x; obtain ⟨v2, v3, _, _⟩ := box2 D4.y)
    | (go_at_call 45; (with_reducible refine (hc _ D4.bel).mono ?_); rintro e w5 ⟨o1, n1, c1, o2, n2, c2, S, A, rfl, f1, f2, hΦ, k5⟩; have s4 := D4.sz; have D5 := D4.below k5 s4; obtain ⟨z0, z1, z2, z3⟩ := box2 D5.r))
  (try simp only [Exit.inBlock, Exit.then])
  refine bodyPost_ret (v := .tuple #[.agg #[.slice o1 n1 c1, .slice o2 n2 c2], .int .i64 E]) (by rw [results_cell_tmp rfl]; go_simp) rfl ?_
  exact ⟨o1, n1, c1, o2, n2, c2, S, A, rfl, (ft_setQ f1 (by omega) _ _).mono (by omega), (ft_setQ f2 (by omega) _ _).mono (by omega), hΦ, below_set2 _ _ _ _ D5.bel (by omega) (Nat.le_refl _)⟩

set_option maxHeartbeats 2000000 in
theorem dyadS_down (xso xo so ao : Option Addr) (xsn xsc xn xc sn sc an ac : Nat) (sx ax sy ay : List Int) (Φ : List Int → List Int → Prop) (E : Int) (w : World) (hsx : Rd w xso xsn sx) (hax : Rd w xo xn ax) (hsy : Rd w so sn sy) (hay : Rd w ao an ay) (mx : mayA sx ax = 0) (my : mayA sy ay = 0)
    (hc : ∀ V, Below w.heap.size w V → Calls Tryz.prog 47 #[.agg #[.slice xso xsn xsc, .slice xo xn xc], .agg #[.slice so sn sc, .slice ao an ac]] V fun e w' => AnsQ V Φ E e w') :
    Calls Tryz.prog 14 #[.int .i64 38, .agg #[.slice xso xsn xsc, .slice xo xn xc], .agg #[.slice so sn sc, .slice ao an ac]] w fun e w' => AnsQ w Φ E e w' := by
  have D0 := du_startQ w xso xsn xsc xo xn xc so sn sc ao an ac
  have s0 := D0.sz
  have cM1 := mayA_any xso xo xsn xsc xn xc sx ax _ (hsx.below D0.bel (Nat.le_refl _)) (hax.below D0.bel (Nat.le_refl _))
  have cM2 := fun V (D : DuQ w V xso xsn xsc xo xn xc so sn sc ao an ac) => mayA_any so ao sn sc an ac sy ay V (hsy.below D.bel (Nat.le_refl _)) (hay.below D.bel (Nat.le_refl _))
  rw [mx] at cM1
  rw [my] at cM2
  have cD := fun V => rowOf_38 V
  obtain ⟨x0, x1, _, _⟩ := box2 D0.x
  obtain ⟨x2, x3, _, _⟩ := box2 D0.y
  clear mx my
  have hnil := fun V => nD_eqF V (.func 47) #[] #[]
  go_enter Tryz.func14, Tryz.ntmps14
  go_wp2_with (first
    | (go_at_call 20; (with_reducible refine cM1.mono ?_); rintro e w1 ⟨rfl, k1⟩; have D1 := D0.below k1 s0; have s1 := D1.sz; obtain ⟨y0, y1, _, _⟩ := box2 D1.x; obtain ⟨y2, y3, _, _⟩ := box2 D1.y)
    | (go_at_call 20; (with_reducible refine (cM2 w1 D1).mono ?_); rintro e w2 ⟨rfl, k2⟩; have D2 := D1.below k2 s1; have s2 := D2.sz)
    | (go_at_call 15; (with_reducible refine (cD w2).mono ?_); rintro e w3 ⟨rfl, k3⟩; have D3 := D2.below k3 s2; have s3 := D3.sz; have D4 := D3.below (box_below w3 (.cells #[.int .i64 38, .func (.func 46) #[] #[], .func (.func 47) #[] #[]] 47)) s3; obtain ⟨v0, v1, _, _⟩ := box2 D4.x; obtain ⟨v2, v3, _, _⟩ := box2 D4.y)
    | (go_at_call 47; (with_reducible refine (hc _ D4.bel).mono ?_); rintro e w5 ⟨o1, n1, c1, o2, n2, c2, S, A, rfl, f1, f2, hΦ, k5⟩; have s4 := D4.sz; have D5 := D4.below k5 s4; obtain ⟨z0, z1, z2, z3⟩ := box2 D5.r))
  (try simp only [Exit.inBlock, Exit.then])
  refine bodyPost_ret (v := .tuple #[.agg #[.slice o1 n1 c1, .slice o2 n2 c2], .int .i64 E]) (by rw [results_cell_tmp rfl]; go_simp) rfl ?_
  exact ⟨o1, n1, c1, o2, n2, c2, S, A, rfl, (ft_setQ f1 (by omega) _ _).mono (by omega), (ft_setQ f2 (by omega) _ _).mono (by omega), hΦ, below_set2 _ _ _ _ D5.bel (by omega) (Nat.le_refl _)⟩
end Go.Proofs.YtmepcenbaohcoaaGreat
