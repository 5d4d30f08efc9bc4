
/- Contracts of package seek: what is left; PIn and PNot. -/

import Derived.Test.YtmepcenbaohcoaaGreatYP

namespace Go.Proofs.YtmepcenbaohcoaaGreat

open Go.RowKit

set_option linter.unusedVariables false

/-- The places, of the first k, that p tells. -/
def flt (p : Nat → Bool) (k : Nat) : List Int := ((List.range k).filter p).map (fun i : Nat => (i : Int))
theorem flt_succ (p : Nat → Bool) (k : Nat) : flt p (k + 1) = flt p k ++ (if p k = true then [(k : Int)] else []) := by
  unfold flt
  rw [List.range_succ, List.filter_append, List.map_append]
  congr 1
  by_cases h : p k = true
  · simp [h]
  · simp [h]
theorem flt_len (p : Nat → Bool) (k : Nat) : (flt p k).length ≤ k := by
  unfold flt
  rw [List.length_map]
  exact Nat.le_trans (List.length_filter_le _ _) (by simp)
theorem flt_mem {p : Nat → Bool} {k : Nat} {x : Int} (h : x ∈ flt p k) : 0 ≤ x ∧ x < k := by
  unfold flt at h
  obtain ⟨i, hi, rfl⟩ := List.mem_map.1 h
  have := List.mem_range.1 (List.mem_filter.1 hi).1
  omega
/-- Is an item of the one no item of the other? -/
def woB (xs ys : Nat → List Int × List Int) (m : Nat) (i : Nat) : Bool := !decide (fsq ys m (xs i) < m)

set_option maxHeartbeats 4000000 in
set_option maxRecDepth 20000 in
theorem without_any (so ao uo bo : Option Addr) (sn sc an ac un uc bn bc : Nat) (sh at' th bt' : List Int) (w : World) (h : Rd w so sn sh) (hs : Sl so sn sc) (g : Rd w ao an at') (gs : Sl ao an ac) (h0 : mayA sh at' = 0) (h2 : Rd w uo un th) (hs2 : Sl uo un uc) (g2 : Rd w bo bn bt') (gs2 : Sl bo bn bc) (h02 : mayA th bt' = 0) :
    Calls Tryz.prog 48 #[.agg #[.slice so sn sc, .slice ao an ac], .agg #[.slice uo un uc, .slice bo bn bc]] w fun e w' => AnsQ w (fun S A => S = ((flt (woB (itX sh at') (itX th bt') (itN th)) (itN sh)).length : Int) :: sh.drop 1 ∧ A = chA (itX sh at') (flt (woB (itX sh at') (itX th bt') (itN th)) (itN sh)) (flt (woB (itX sh at') (itX th bt') (itN th)) (itN sh)).length) 0 e w' := by
  have D0 := du_startQ w so sn sc ao an ac uo un uc bo bn bc
  have hfi := finderOf_any uo bo un uc bn bc th bt' _ (h2.below D0.bel (Nat.le_refl _)) hs2 (g2.below D0.bel (Nat.le_refl _)) gs2 h02
  have hit := fun V (D : DuQ w V so sn sc ao an ac uo un uc bo bn bc) => itemsOf_any so ao sn sc an ac sh at' w V D.bel h hs g gs h0
  have hch := fun V (D : DuQ w V so sn sc ao an ac uo un uc bo bn bc) po m pc ps (hp : Rd V po m ps) (hm : m ≤ 4096) (hin : inN (itN sh) ps) => chosen_any so ao sn sc an ac sh at' po m pc ps V (h.below D.bel (Nat.le_refl _)) hs (g.below D.bel (Nat.le_refl _)) gs h0 hp hm hin
  obtain ⟨q0, q1, _, _⟩ := box2 D0.x
  obtain ⟨y0, y1, _, _⟩ := box2 D0.y
  generalize itN th = m at *
  generalize itX th bt' = ys at *
  generalize itN sh = n at *
  generalize itX sh at' = xs at *
  go_enter Tryz.func48, Tryz.ntmps48
  go_wp2_with (first
    | (go_at_call 58; (with_reducible refine hfi.mono ?_); rintro e w1 ⟨io, po, pc, rfl, Fn, lb⟩; have kz := box_below w1 (.cells #[.slice io m m, .slice po m pc] 78); have s0 := D0.sz; have s1 := lb.size; have D1 := (D0.below lb s0).below kz (by omega); have F1 := Fn.below kz (Nat.le_refl _); have bz := allocNew w1 (.cells #[.slice io m m, .slice po m pc] 78); obtain ⟨z0, z1, _, _⟩ := box2 D1.x)
    | (go_at_call 71; (with_reducible refine (hit _ D1).mono ?_); rintro e w2 ⟨gg, rfl, lg, lb2, C2⟩; have D2 := D1.below lb2 D1.sz; have F2 := F1.below lb2 (Nat.le_refl _); have bz2 := (lb2.block w1.heap.size (by simp)).trans bz))
  have hn4 := C2.n4
  have hs2' := D2.sz
  clear hfi hit lb lb2 kz D1 F1 bz Fn z0 z1 q0 q1 y0 y1
  have hgf := (Array.getElem?_eq_some_iff.1 bz2).1
  generalize w1.heap.size = gf at *
  go_loopw [7, 15] (fun sv i V => ∃ (k : Nat) (oo : Option Addr) (mm oc : Nat), k ≤ n ∧ i = .int .i64 (k : Nat) ∧ sv = .slice oo mm oc ∧ Ft 3 V w2.heap.size oo mm oc (flt (woB xs ys m) k) ∧ Below w2.heap.size w2 V) (fun _ i _ => n - (intOf i).toNat)
  case atStart => exact ⟨0, none, 0, 0, Nat.zero_le _, rfl, rfl, Ft.nil _ _ _, Below.refl _ _⟩
  case round =>
    obtain ⟨k, oo, mm, oc, hk, rfl, rfl, F, B⟩ := hrel
    by_cases hlt : k < n
    · obtain ⟨gb, goff, ge, hgl, hgc⟩ := (C2.below B).as.cells (by omega)
      cases ge
      obtain ⟨so', sn', sc', uo', tn, tc, a1, a2, a3, a4, a5, a6⟩ := hgc k hlt
      rw [Nat.zero_add] at a1 a2
      have t1 : decide ((k : Int) < (n : Int)) = true := by simp; omega
      have bk : (k : Int) < (n : Int) := by omega
      have wk := wrY (z := (k : Int) + 1) (by omega) (by omega)
      have hsu := flt_succ (woB xs ys m) k
      have hl := flt_len (woB xs ys m) k
      rw [F.rd.len] at hl
      have ka := box_below wr (.cells #[.slice so' sn' sc', .slice uo' tn tc] 30)
      have ba := allocNew wr (.cells #[.slice so' sn' sc', .slice uo' tn tc] 30)
      have sB := B.size
      have BA := B.trans (ka.mono sB)
      have hcal := has_any io m m po pc ys so' uo' sn' sc' tn tc _ _ _ (F2.below BA (Nat.le_refl _)) (a3.below ka (Nat.le_refl _)) (a5.below ka (Nat.le_refl _))
      obtain ⟨f0, f1, _, _⟩ := box2 ((BA.block gf hgf).trans bz2)
      have ew : woB xs ys m k = !decide (fsq ys m ((xs k).1, (xs k).2) < m) := rfl
      generalize hd : decide (fsq ys m ((xs k).1, (xs k).2) < m) = d at *
      rw [ew] at hsu
      clear hgc a3 a4 a5 a6 hd ew
      cases d
      · have HS : Hid (flt (woB xs ys m) (k + 1) = flt (woB xs ys m) k ++ [(k : Int)]) := by show _ = _; rw [hsu]; rfl
        clear hsu
        go_wp2_with (first
          | (go_at_call 64; (with_reducible refine hcal.mono ?_); rintro e w5 ⟨rfl, b5⟩; have BB := BA.trans (b5.mono (Nat.le_trans sB ka.size)); have F5 := (F.below ka (Nat.le_refl _)).below b5 (Nat.le_refl _); have s5 := BB.size)
          | (at_builtin; refine wpList_joinT tyIQ rfl _ _ rfl w2.heap.size oo (some ⟨w5.heap.size, 0, none⟩) mm oc 1 1 _ [(k : Int)] rfl rfl (F5.below (box_below w5 _) (Nat.le_refl _)) (ft_new 3 w5 [(k : Int)] (by simp) (fun j hj => by rw [show j = 0 by simp at hj; omega, show nth [(k : Int)] 0 = (k : Int) from rfl]; omega)).rd (ft_new 3 w5 [(k : Int)] (by simp) (fun j hj => by rw [show j = 0 by simp at hj; omega, show nth [(k : Int)] 0 = (k : Int) from rfl]; omega)).sl (by omega) (by simp; omega) ?_; intro co3 c3 w3 f3 b3))
        go_roundw
        case rel => exact ⟨k + 1, co3, mm + 1, c3, by omega, by go_num, rfl, by rw [HS.out]; exact f3, BB.trans (((box_below w5 _).mono s5).trans b3)⟩
        case measure => simp [intOf]; omega
      · have HS : Hid (flt (woB xs ys m) (k + 1) = flt (woB xs ys m) k) := by show _ = _; rw [hsu]; simp
        clear hsu
        go_wp2_with (first
          | (go_at_call 64; (with_reducible refine hcal.mono ?_); rintro e w5 ⟨rfl, b5⟩; have BB := BA.trans (b5.mono (Nat.le_trans sB ka.size)); have F5 := (F.below ka (Nat.le_refl _)).below b5 (Nat.le_refl _); have s5 := BB.size))
        go_roundw
        case rel => exact ⟨k + 1, oo, mm, oc, by omega, by go_num, rfl, by rw [HS.out]; exact F5, BB⟩
        case measure => simp [intOf]; omega
    · obtain rfl : k = n := by omega
      have t1 : decide ((k : Int) < (k : Int)) = false := by simp
      have D3 := D2.below B hs2'
      have hl := flt_len (woB xs ys m) k
      have hl2 := F.rd.len
      obtain ⟨x0, x1, _, _⟩ := box2 D3.x
      have hcc := hch wr D3 oo mm oc _ F.rd (by omega) (fun i hi => flt_mem (nth_mem hi))
      rw [← hl2] at hcc
      have s3 := D3.sz
      subst hl2
      go_wp2_with (first
        | (go_at_call 65; (with_reducible refine hcc.mono ?_); rintro e w6 ⟨o1, n1, c1, o2, n2, c2, rfl, G1, G2, k6⟩; have D6 := D3.below k6 s3; obtain ⟨r0, r1, r2, r3⟩ := box2 D6.r))
      (try simp only [Exit.inBlock, Exit.then])
      refine bodyPost_ret (v := .tuple #[.agg #[.slice o1 n1 c1, .slice o2 n2 c2], .int .i64 0]) (by rw [results_cell_tmp rfl]; go_simp) rfl ?_
      exact ⟨o1, n1, c1, o2, n2, c2, _, _, rfl, (ft_setQ G1 (by omega) _ _).mono (by omega), (ft_setQ G2 (by omega) _ _).mono (by omega), ⟨rfl, rfl⟩, below_set2 _ _ _ _ D6.bel (by omega) (Nat.le_refl _)⟩

set_option maxHeartbeats 2000000 in
theorem rowOf_35 (w : World) :
    Calls Tryz.prog 15 #[.int .i64 35] w fun e w' => e = .returned (.tuple #[.agg #[.int .i64 35, .nilFunc, .func (.func 40) #[] #[]], .bool true]) ∧ Below w.heap.size w w' := by
  have hd := rows_any (w.alloc (.cells #[.int .i64 0, .nilFunc, .nilFunc] 47))
  have T := seekTab (allocNew (w.alloc (.cells #[.int .i64 0, .nilFunc, .nilFunc] 47)) (.cells seekRow.toArray 47))
  have R := ((box_below (w.alloc (.cells #[.int .i64 0, .nilFunc, .nilFunc] 47)) (.cells seekRow.toArray 47)).block w.heap.size (by simp)).trans (allocNew w (.cells #[.int .i64 0, .nilFunc, .nilFunc] 47))
  have B0 : Below w.heap.size w ((w.alloc (.cells #[.int .i64 0, .nilFunc, .nilFunc] 47)).alloc (.cells seekRow.toArray 47)) := (box_below w _).trans ((box_below _ _).mono (by simp))
  simp only [World.size_alloc] at T hd
  generalize hW2 : (w.alloc (.cells #[.int .i64 0, .nilFunc, .nilFunc] 47)).alloc (.cells seekRow.toArray 47) = W2 at *
  have hs2 : W2.heap.size = w.heap.size + 2 := by rw [← hW2]; simp
  clear hW2
  go_enter Tryz.func15, Tryz.ntmps15
  go_wp2_with (go_at_call 21; (with_reducible refine hd.mono ?_); rintro e w' ⟨rfl, hw⟩; rw [hw]; clear hw w' hd)
  go_loopw [8] (fun i V => ∃ j : Nat, j ≤ 2 ∧ i = .int .i64 (j : Nat) ∧ Below W2.heap.size W2 V) (fun i _ => 10 - (intOf i).toNat)
  case atStart => exact ⟨0, Nat.zero_le _, rfl, Below.refl _ _⟩
  case round =>
    obtain ⟨j, hj, rfl, BV⟩ := hrel
    obtain ⟨r0, r1, r2⟩ := T j (by omega)
    have lt := World.block_lt_of_cell? W2 _ r0
    have y0 := (BV.cell (p := ⟨w.heap.size + 1, j * 3, none⟩) lt).trans r0; have y1 := (BV.cell (p := ⟨w.heap.size + 1, j * 3 + 1, none⟩) lt).trans r1; have y2 := (BV.cell (p := ⟨w.heap.size + 1, j * 3 + 2, none⟩) lt).trans r2
    have bj : (j : Int) < 10 := by omega
    have tj : decide ((j : Int) < 10) = true := by simp; omega
    by_cases hlt : j < 2
    · have hne : (sOp j == 35) = false := by
        match j, hlt with
        | 0, _ => rfl
        | 1, _ => rfl
      generalize sOp j = OJ at *
      rcases sRow_kinds j (by omega) with ⟨e1, G, e2⟩ | ⟨e2, F, e1⟩ | ⟨F, G, e1, e2⟩
      all_goals
        rw [e1] at y1
        rw [e2] at y2
        clear e1 e2
        go_wp2
        go_roundw
        case rel => exact ⟨j + 1, by omega, by go_num, BV.trans ((box_below wr _).mono BV.size)⟩
        case measure => simp [intOf]; omega
    · obtain rfl : j = 2 := by omega
      rw [show sOp 2 = 35 from rfl] at y0
      rw [show sM 2 = .nilFunc from rfl] at y1
      rw [show sD 2 = .func (.func 40) #[] #[] from rfl] at y2
      have BV2 := BV.trans ((box_below wr (.cells #[.int .i64 35, .nilFunc, .func (.func 40) #[] #[]] 47)).mono BV.size)
      have RV := (BV2.block w.heap.size (by omega)).trans R
      obtain ⟨q0, q1, q2, z0, z1, z2⟩ := bx3Q RV
      have BB := B0.trans (BV2.mono (by omega))
      clear T R
      go_wp2
      (try simp only [Exit.inBlock, Exit.then])
      refine bodyPost_ret (v := .tuple #[.agg #[.int .i64 35, .nilFunc, .func (.func 40) #[] #[]], .bool true]) (by rw [results_cell_tmp rfl]; go_simp) rfl ?_
      exact ⟨rfl, below_set3Q _ _ _ _ _ _ BB (Nat.le_refl _)⟩

set_option maxHeartbeats 2000000 in
theorem rowOf_18 (w : World) :
    Calls Tryz.prog 15 #[.int .i64 18] w fun e w' => e = .returned (.tuple #[.agg #[.int .i64 18, .nilFunc, .func (.func 48) #[] #[]], .bool true]) ∧ Below w.heap.size w w' := by
  have hd := rows_any (w.alloc (.cells #[.int .i64 0, .nilFunc, .nilFunc] 47))
  have T := seekTab (allocNew (w.alloc (.cells #[.int .i64 0, .nilFunc, .nilFunc] 47)) (.cells seekRow.toArray 47))
  have R := ((box_below (w.alloc (.cells #[.int .i64 0, .nilFunc, .nilFunc] 47)) (.cells seekRow.toArray 47)).block w.heap.size (by simp)).trans (allocNew w (.cells #[.int .i64 0, .nilFunc, .nilFunc] 47))
  have B0 : Below w.heap.size w ((w.alloc (.cells #[.int .i64 0, .nilFunc, .nilFunc] 47)).alloc (.cells seekRow.toArray 47)) := (box_below w _).trans ((box_below _ _).mono (by simp))
  simp only [World.size_alloc] at T hd
  generalize hW2 : (w.alloc (.cells #[.int .i64 0, .nilFunc, .nilFunc] 47)).alloc (.cells seekRow.toArray 47) = W2 at *
  have hs2 : W2.heap.size = w.heap.size + 2 := by rw [← hW2]; simp
  clear hW2
  go_enter Tryz.func15, Tryz.ntmps15
  go_wp2_with (go_at_call 21; (with_reducible refine hd.mono ?_); rintro e w' ⟨rfl, hw⟩; rw [hw]; clear hw w' hd)
  go_loopw [8] (fun i V => ∃ j : Nat, j ≤ 8 ∧ i = .int .i64 (j : Nat) ∧ Below W2.heap.size W2 V) (fun i _ => 10 - (intOf i).toNat)
  case atStart => exact ⟨0, Nat.zero_le _, rfl, Below.refl _ _⟩
  case round =>
    obtain ⟨j, hj, rfl, BV⟩ := hrel
    obtain ⟨r0, r1, r2⟩ := T j (by omega)
    have lt := World.block_lt_of_cell? W2 _ r0
    have y0 := (BV.cell (p := ⟨w.heap.size + 1, j * 3, none⟩) lt).trans r0; have y1 := (BV.cell (p := ⟨w.heap.size + 1, j * 3 + 1, none⟩) lt).trans r1; have y2 := (BV.cell (p := ⟨w.heap.size + 1, j * 3 + 2, none⟩) lt).trans r2
    have bj : (j : Int) < 10 := by omega
    have tj : decide ((j : Int) < 10) = true := by simp; omega
    by_cases hlt : j < 8
    · have hne : (sOp j == 18) = false := by
        match j, hlt with
        | 0, _ => rfl
        | 1, _ => rfl
        | 2, _ => rfl
        | 3, _ => rfl
        | 4, _ => rfl
        | 5, _ => rfl
        | 6, _ => rfl
        | 7, _ => rfl
      generalize sOp j = OJ at *
      rcases sRow_kinds j (by omega) with ⟨e1, G, e2⟩ | ⟨e2, F, e1⟩ | ⟨F, G, e1, e2⟩
      all_goals
        rw [e1] at y1
        rw [e2] at y2
        clear e1 e2
        go_wp2
        go_roundw
        case rel => exact ⟨j + 1, by omega, by go_num, BV.trans ((box_below wr _).mono BV.size)⟩
        case measure => simp [intOf]; omega
    · obtain rfl : j = 8 := by omega
      rw [show sOp 8 = 18 from rfl] at y0
      rw [show sM 8 = .nilFunc from rfl] at y1
      rw [show sD 8 = .func (.func 48) #[] #[] from rfl] at y2
      have BV2 := BV.trans ((box_below wr (.cells #[.int .i64 18, .nilFunc, .func (.func 48) #[] #[]] 47)).mono BV.size)
      have RV := (BV2.block w.heap.size (by omega)).trans R
      obtain ⟨q0, q1, q2, z0, z1, z2⟩ := bx3Q RV
      have BB := B0.trans (BV2.mono (by omega))
      clear T R
      go_wp2
      (try simp only [Exit.inBlock, Exit.then])
      refine bodyPost_ret (v := .tuple #[.agg #[.int .i64 18, .nilFunc, .func (.func 48) #[] #[]], .bool true]) (by rw [results_cell_tmp rfl]; go_simp) rfl ?_
      exact ⟨rfl, below_set3Q _ _ _ _ _ _ BB (Nat.le_refl _)⟩

set_option maxHeartbeats 2000000 in
theorem dyadS_in (xso xo so ao : Option Addr) (xsn xsc xn xc sn sc an ac : Nat) (sx ax sy ay : List Int) (Φ : List Int → List Int → Prop) (E : Int) (w : World) (hsx : Rd w xso xsn sx) (hax : Rd w xo xn ax) (hsy : Rd w so sn sy) (hay : Rd w ao an ay) (mx : mayA sx ax = 0) (my : mayA sy ay = 0)
    (hc : ∀ V, Below w.heap.size w V → Calls Tryz.prog 40 #[.agg #[.slice xso xsn xsc, .slice xo xn xc], .agg #[.slice so sn sc, .slice ao an ac]] V fun e w' => AnsQ V Φ E e w') :
    Calls Tryz.prog 14 #[.int .i64 35, .agg #[.slice xso xsn xsc, .slice xo xn xc], .agg #[.slice so sn sc, .slice ao an ac]] w fun e w' => AnsQ w Φ E e w' := by
  have D0 := du_startQ w xso xsn xsc xo xn xc so sn sc ao an ac
  have s0 := D0.sz
  have cM1 := mayA_any xso xo xsn xsc xn xc sx ax _ (hsx.below D0.bel (Nat.le_refl _)) (hax.below D0.bel (Nat.le_refl _))
  have cM2 := fun V (D : DuQ w V xso xsn xsc xo xn xc so sn sc ao an ac) => mayA_any so ao sn sc an ac sy ay V (hsy.below D.bel (Nat.le_refl _)) (hay.below D.bel (Nat.le_refl _))
  rw [mx] at cM1
  rw [my] at cM2
  have cD := fun V => rowOf_35 V
  obtain ⟨x0, x1, _, _⟩ := box2 D0.x
  obtain ⟨x2, x3, _, _⟩ := box2 D0.y
  clear mx my
  have hnil := fun V => nD_eqF V (.func 40) #[] #[]
  go_enter Tryz.func14, Tryz.ntmps14
  go_wp2_with (first
    | (go_at_call 20; (with_reducible refine cM1.mono ?_); rintro e w1 ⟨rfl, k1⟩; have D1 := D0.below k1 s0; have s1 := D1.sz; obtain ⟨y0, y1, _, _⟩ := box2 D1.x; obtain ⟨y2, y3, _, _⟩ := box2 D1.y)
    | (go_at_call 20; (with_reducible refine (cM2 w1 D1).mono ?_); rintro e w2 ⟨rfl, k2⟩; have D2 := D1.below k2 s1; have s2 := D2.sz)
    | (go_at_call 15; (with_reducible refine (cD w2).mono ?_); rintro e w3 ⟨rfl, k3⟩; have D3 := D2.below k3 s2; have s3 := D3.sz; have D4 := D3.below (box_below w3 (.cells #[.int .i64 35, .nilFunc, .func (.func 40) #[] #[]] 47)) s3; obtain ⟨v0, v1, _, _⟩ := box2 D4.x; obtain ⟨v2, v3, _, _⟩ := box2 D4.y)
    | (go_at_call 40; (with_reducible refine (hc _ D4.bel).mono ?_); rintro e w5 ⟨o1, n1, c1, o2, n2, c2, S, A, rfl, f1, f2, hΦ, k5⟩; have s4 := D4.sz; have D5 := D4.below k5 s4; obtain ⟨z0, z1, z2, z3⟩ := box2 D5.r))
  (try simp only [Exit.inBlock, Exit.then])
  refine bodyPost_ret (v := .tuple #[.agg #[.slice o1 n1 c1, .slice o2 n2 c2], .int .i64 E]) (by rw [results_cell_tmp rfl]; go_simp) rfl ?_
  exact ⟨o1, n1, c1, o2, n2, c2, S, A, rfl, (ft_setQ f1 (by omega) _ _).mono (by omega), (ft_setQ f2 (by omega) _ _).mono (by omega), hΦ, below_set2 _ _ _ _ D5.bel (by omega) (Nat.le_refl _)⟩

set_option maxHeartbeats 2000000 in
theorem dyadS_not (xso xo so ao : Option Addr) (xsn xsc xn xc sn sc an ac : Nat) (sx ax sy ay : List Int) (Φ : List Int → List Int → Prop) (E : Int) (w : World) (hsx : Rd w xso xsn sx) (hax : Rd w xo xn ax) (hsy : Rd w so sn sy) (hay : Rd w ao an ay) (mx : mayA sx ax = 0) (my : mayA sy ay = 0)
    (hc : ∀ V, Below w.heap.size w V → Calls Tryz.prog 48 #[.agg #[.slice xso xsn xsc, .slice xo xn xc], .agg #[.slice so sn sc, .slice ao an ac]] V fun e w' => AnsQ V Φ E e w') :
    Calls Tryz.prog 14 #[.int .i64 18, .agg #[.slice xso xsn xsc, .slice xo xn xc], .agg #[.slice so sn sc, .slice ao an ac]] w fun e w' => AnsQ w Φ E e w' := by
  have D0 := du_startQ w xso xsn xsc xo xn xc so sn sc ao an ac
  have s0 := D0.sz
  have cM1 := mayA_any xso xo xsn xsc xn xc sx ax _ (hsx.below D0.bel (Nat.le_refl _)) (hax.below D0.bel (Nat.le_refl _))
  have cM2 := fun V (D : DuQ w V xso xsn xsc xo xn xc so sn sc ao an ac) => mayA_any so ao sn sc an ac sy ay V (hsy.below D.bel (Nat.le_refl _)) (hay.below D.bel (Nat.le_refl _))
  rw [mx] at cM1
  rw [my] at cM2
  have cD := fun V => rowOf_18 V
  obtain ⟨x0, x1, _, _⟩ := box2 D0.x
  obtain ⟨x2, x3, _, _⟩ := box2 D0.y
  clear mx my
  have hnil := fun V => nD_eqF V (.func 48) #[] #[]
  go_enter Tryz.func14, Tryz.ntmps14
  go_wp2_with (first
    | (go_at_call 20; (with_reducible refine cM1.mono ?_); rintro e w1 ⟨rfl, k1⟩; have D1 := D0.below k1 s0; have s1 := D1.sz; obtain ⟨y0, y1, _, _⟩ := box2 D1.x; obtain ⟨y2, y3, _, _⟩ := box2 D1.y)
    | (go_at_call 20; (with_reducible refine (cM2 w1 D1).mono ?_); rintro e w2 ⟨rfl, k2⟩; have D2 := D1.below k2 s1; have s2 := D2.sz)
    | (go_at_call 15; (with_reducible refine (cD w2).mono ?_); rintro e w3 ⟨rfl, k3⟩; have D3 := D2.below k3 s2; have s3 := D3.sz; have D4 := D3.below (box_below w3 (.cells #[.int .i64 18, .nilFunc, .func (.func 48) #[] #[]] 47)) s3; obtain ⟨v0, v1, _, _⟩ := box2 D4.x; obtain ⟨v2, v3, _, _⟩ := box2 D4.y)
    | (go_at_call 48; (with_reducible refine (hc _ D4.bel).mono ?_); rintro e w5 ⟨o1, n1, c1, o2, n2, c2, S, A, rfl, f1, f2, hΦ, k5⟩; have s4 := D4.sz; have D5 := D4.below k5 s4; obtain ⟨z0, z1, z2, z3⟩ := box2 D5.r))
  (try simp only [Exit.inBlock, Exit.then])
  refine bodyPost_ret (v := .tuple #[.agg #[.slice o1 n1 c1, .slice o2 n2 c2], .int .i64 E]) (by rw [results_cell_tmp rfl]; go_simp) rfl ?_
  exact ⟨o1, n1, c1, o2, n2, c2, S, A, rfl, (ft_setQ f1 (by omega) _ _).mono (by omega), (ft_setQ f2 (by omega) _ _).mono (by omega), hΦ, below_set2 _ _ _ _ D5.bel (by omega) (Nat.le_refl _)⟩
end Go.Proofs.YtmepcenbaohcoaaGreat
