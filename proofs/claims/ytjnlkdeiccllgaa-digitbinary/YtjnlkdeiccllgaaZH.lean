
/- Contract of package digit: copying. -/

import Derived.Test.YtjnlkdeiccllgaaZG
import Derived.Deep.QuietTactic
import Derived.BigQuiet



namespace Go.Proofs.Ytjnlkdeiccllgaa

open Go.RowKit

set_option linter.unusedVariables false

set_option maxHeartbeats 4000000 in
set_option maxRecDepth 20000 in
theorem copies_ok_a (so ao uo bo : Option Addr) (sn sc an ac un uc bn bc : Nat) (sx ax sy ay : List Int) (w : World) (hx : Rd w so sn sx) (gx : Rd w ao an ax) (gsx : Sl ao an ac) (hy : Rd w uo un sy) (hsy : Sl uo un uc) (gy : Rd w bo bn ay) (gsy : Sl bo bn bc) (tl : Nat) (htl : itm sy ay = (tl : Int)) (tl4 : tl ≤ 4096) (an4 : an ≤ 4096) (un4 : un ≤ 4096) (h1 : sn = 0) (T : Nat) (T4 : T ≤ 4096) (hI : ∀ V, Below w.heap.size w V → Calls Try.prog 32 #[.slice ao an ac, .int .i64 (tl : Nat)] V fun e w' => e = .returned (.tuple #[.int .i64 (T : Nat), .int .i64 0]) ∧ w' = V) (hF : mayF ((T : Int) :: sy.drop 1) = 0) (wd : Nat) (hcut : (takL sx ax tl).length * wd = (takL sy ay an).length) (lm : (takL sy ay an).length ≤ 4096) (ln : (takL sx ax tl).length ≤ 4096) (hns : ∀ k, k < (takL sx ax tl).length → 0 ≤ nth (takL sx ax tl) k ∧ nth (takL sx ax tl) k ≤ 4096) (hwT : (wd : Int) * sm (takL sx ax tl) ≤ 4096) (h11 : sn = 0 → an = 1) (h12 : un = 0 → bn = 1) :
    Calls Try.prog 24 #[.agg #[.slice so sn sc, .slice ao an ac], .agg #[.slice uo un uc, .slice bo bn bc]] w fun e w' => AnsQ w (fun S A => S = (T : Int) :: sy.drop 1 ∧ A = rpd (takL sy ay an) wd (takL sx ax tl) (takL sx ax tl).length) 0 e w' := by
  have D0 := du_startQ w so sn sc ao an ac uo un uc bo bn bc
  have s0 := D0.sz
  have cIt := fun V (D : DuQ w V so sn sc ao an ac uo un uc bo bn bc) => items_any uo bo un uc bn bc sy ay V (hy.below D.bel (Nat.le_refl _)) (gy.below D.bel (Nat.le_refl _))
  rw [htl] at cIt
  obtain ⟨x0, x1, _, _⟩ := box2 D0.x
  obtain ⟨x2, x3, _, _⟩ := box2 D0.y
  have al : ∀ V, DuQ w V so sn sc ao an ac uo un uc bo bn bc → V.cell? ⟨w.heap.size, 0, none⟩ = some (.slice so sn sc) ∧ V.cell? ⟨w.heap.size, 1, none⟩ = some (.slice ao an ac) ∧ V.cell? ⟨w.heap.size + 1, 0, none⟩ = some (.slice uo un uc) ∧ V.cell? ⟨w.heap.size + 1, 1, none⟩ = some (.slice bo bn bc) := fun V D => ⟨(box2 D.x).1, (box2 D.x).2.1, (box2 D.y).1, (box2 D.y).2.1⟩
  have DD : ∀ V, DuQ w V so sn sc ao an ac uo un uc bo bn bc → DuQ w V.drew so sn sc ao an ac uo un uc bo bn bc := fun V D => D.below (B := V.heap.size) (Below.refl _ _).drew D.sz
  clear htl
  have cTy := fun V (D : DuQ w V so sn sc ao an ac uo un uc bo bn bc) => taken_any uo bo un uc bn bc an sy ay V (hy.below D.bel (Nat.le_refl _)) (gy.below D.bel (Nat.le_refl _)) gsy an4 h12
  have cTx := fun V (D : DuQ w V so sn sc ao an ac uo un uc bo bn bc) => taken_any so ao sn sc an ac tl sx ax V (hx.below D.bel (Nat.le_refl _)) (gx.below D.bel (Nat.le_refl _)) gsx tl4 h11
  have cRp := fun V to' bo' tn tc vn vc (h : Rd V to' tn (takL sy ay an)) (hs : Sl to' tn tc) (g : Rd V bo' vn (takL sx ax tl)) => repeated_any to' bo' tn tc vn vc wd (takL sy ay an) (takL sx ax tl) V h hs g (by rw [← g.len, ← h.len]; exact hcut) (by rw [← h.len]; exact lm) (by rw [← g.len]; exact ln) (fun k hk => hns k (by rw [g.len]; exact hk)) hwT
  have HNL : Hid (∀ V (bo' : Option Addr) vn, Rd V bo' vn (takL sx ax tl) → (takL sx ax tl).length = vn) := fun V bo' vn h => h.len
  clear hns hcut lm ln hwT h11 h12
  subst h1
  go_enter Try.func24, Try.ntmps24
  go_wp2_with (first
    | (go_at_call 31; (with_reducible refine (cIt _ D0).mono ?_); rintro e w1 ⟨rfl, k1⟩; have D1 := D0.below k1 s0; have s1 := D1.sz; obtain ⟨y0, y1, _, _⟩ := box2 D1.x; obtain ⟨y2, y3, _, _⟩ := box2 D1.y)
    | (go_at_call 32; (with_reducible refine (hI _ (D1).bel).mono ?_); rintro e w2 ⟨rfl, hw2⟩; rw [hw2]; clear hw2 w2)
    | (go_at_call 33; (with_reducible refine (split1 uo _ uc sy _ (hy.below (D1).bel (Nat.le_refl _)) hsy un4).mono ?_); rintro e w3 ⟨o1, n1, c1, o2, n2, c2, rfl, r3, l3, n24, k3⟩; have D3 := (D1).below k3 (D1).sz; have s3 := D3.sz)
    | (go_at_call 34; (with_reducible refine (conc_T w3 T o2 n2 c2 _ T4 r3 l3 n24).mono ?_); rintro e w4 ⟨o4, c4, rfl, f4, k4⟩; have D4 := D3.below k4 s3; have s4 := D4.sz; have cF := may_any _ _ c4 _ _ f4.rd; rw [hF] at cF)
    | (go_at_call 19; (with_reducible refine cF.mono ?_); rintro e w5 ⟨rfl, hw5⟩; rw [hw5]; clear hw5 w5))
  have D5 := DD _ D4
  have s5 := D5.sz
  have f5 := f4.below (Below.refl w4.heap.size w4).drew (Nat.le_refl _)
  clear hI cF k3 r3 l3
  go_region_held3 (fun V => V.cell? ⟨w.heap.size, 0, none⟩ = some (.slice so 0 sc) ∧ V.cell? ⟨w.heap.size, 1, none⟩ = some (.slice ao an ac) ∧ V.cell? ⟨w.heap.size + 1, 0, none⟩ = some (.slice uo un uc) ∧ V.cell? ⟨w.heap.size + 1, 1, none⟩ = some (.slice bo bn bc)) (first | exact al _ D5 | exact al _ D6 | exact al _ D7 | exact al _ D8 | exact al _ D9 | exact S9)
    (first
      | (go_at_call 36; (with_reducible refine (cTy _ D5).mono ?_); rintro e w6 ⟨o6, n6, c6, rfl, r6, l6, k6⟩; have D6 := D5.below k6 s5; have s6 := D6.sz)
      | (go_at_call 31; (with_reducible refine (cIt _ D6).mono ?_); rintro e w7 ⟨rfl, k7⟩; have D7 := D6.below k7 s6; have s7 := D7.sz; have r7 := r6.below k7 (Nat.le_refl _))
      | (go_at_call 36; (with_reducible refine (cTx _ D7).mono ?_); rintro e w8 ⟨o8, n8, c8, rfl, r8, l8, k8⟩; have D8 := D7.below k8 s7; have s8 := D8.sz; have r9 := r7.below k8 (Nat.le_refl _))
      | (go_at_call 35; (with_reducible refine (cRp _ _ _ _ _ _ _ r9 l6 r8).mono ?_); rintro e w9 ⟨o9, n9, c9, rfl, f9, k9⟩; have D9 := D8.below k9 s8; have s9 := D9.sz; have k59 := ((k6.trans (k7.mono k6.size)).trans (k8.mono (Nat.le_trans k6.size k7.size))).trans (k9.mono (Nat.le_trans (Nat.le_trans k6.size k7.size) k8.size)); have f10 := f5.below k59 (Nat.le_refl _); obtain ⟨q0, q1, q2, q3⟩ := box2 D9.r; have kk := set2 w9 (w.heap.size + 1 + 1) 0 1 (.slice o4 (1 + n2) c4) (.slice o9 n9 c9); have yy := box2 ((kk.block (w.heap.size + 1) (by omega) (fun e => by injection e with e; omega)).trans D9.y); have xx := box2 ((kk.block w.heap.size (by omega) (fun e => by injection e with e; omega)).trans D9.x); have S9 : _ ∧ _ ∧ _ ∧ _ := ⟨xx.1, xx.2.1, yy.1, yy.2.1⟩))
  go_wp2
  (try simp only [Exit.inBlock, Exit.then])
  refine bodyPost_ret (v := .tuple #[.agg #[.slice o4 (1 + n2) c4, .slice o9 n9 c9], .int .i64 0]) (by rw [results_cell_tmp rfl]; go_simp) rfl ?_
  have e8 := HNL.out _ _ _ r8
  rw [← e8] at f9
  have s45 := k4.size
  have s3' := D4.sz
  exact ⟨_, _, _, _, _, _, _, _, rfl, (ft_setQ (f10.mono (show w.heap.size + 3 ≤ _ from s3)) (by omega) _ _).mono (by omega), (ft_setQ f9 (by omega) _ _).mono (by omega), ⟨rfl, rfl⟩, below_set2 _ _ _ _ D9.bel (by omega) (Nat.le_refl _)⟩

set_option maxHeartbeats 4000000 in
set_option maxRecDepth 20000 in
theorem copies_ok_b (so ao uo bo : Option Addr) (sn sc an ac un uc bn bc : Nat) (sx ax sy ay : List Int) (w : World) (hx : Rd w so sn sx) (gx : Rd w ao an ax) (gsx : Sl ao an ac) (hy : Rd w uo un sy) (hsy : Sl uo un uc) (gy : Rd w bo bn ay) (gsy : Sl bo bn bc) (tl : Nat) (htl : itm sy ay = (tl : Int)) (tl4 : tl ≤ 4096) (an4 : an ≤ 4096) (un4 : un ≤ 4096) (h1 : 0 < sn) (h2 : un = 0) (T : Nat) (T4 : T ≤ 4096) (hI : ∀ V, Below w.heap.size w V → Calls Try.prog 32 #[.slice ao an ac, .int .i64 1] V fun e w' => e = .returned (.tuple #[.int .i64 (T : Nat), .int .i64 0]) ∧ w' = V) (hF : mayF ((T : Int) :: sy.drop 1) = 0) (wd : Nat) (hcut : (takL sx ax tl).length * wd = (takL sy ay an).length) (lm : (takL sy ay an).length ≤ 4096) (ln : (takL sx ax tl).length ≤ 4096) (hns : ∀ k, k < (takL sx ax tl).length → 0 ≤ nth (takL sx ax tl) k ∧ nth (takL sx ax tl) k ≤ 4096) (hwT : (wd : Int) * sm (takL sx ax tl) ≤ 4096) (h11 : sn = 0 → an = 1) (h12 : un = 0 → bn = 1) :
    Calls Try.prog 24 #[.agg #[.slice so sn sc, .slice ao an ac], .agg #[.slice uo un uc, .slice bo bn bc]] w fun e w' => AnsQ w (fun S A => S = (T : Int) :: sy.drop 1 ∧ A = rpd (takL sy ay an) wd (takL sx ax tl) (takL sx ax tl).length) 0 e w' := by
  have D0 := du_startQ w so sn sc ao an ac uo un uc bo bn bc
  have s0 := D0.sz
  have cIt := fun V (D : DuQ w V so sn sc ao an ac uo un uc bo bn bc) => items_any uo bo un uc bn bc sy ay V (hy.below D.bel (Nat.le_refl _)) (gy.below D.bel (Nat.le_refl _))
  rw [htl] at cIt
  obtain ⟨x0, x1, _, _⟩ := box2 D0.x
  obtain ⟨x2, x3, _, _⟩ := box2 D0.y
  have al : ∀ V, DuQ w V so sn sc ao an ac uo un uc bo bn bc → V.cell? ⟨w.heap.size, 0, none⟩ = some (.slice so sn sc) ∧ V.cell? ⟨w.heap.size, 1, none⟩ = some (.slice ao an ac) ∧ V.cell? ⟨w.heap.size + 1, 0, none⟩ = some (.slice uo un uc) ∧ V.cell? ⟨w.heap.size + 1, 1, none⟩ = some (.slice bo bn bc) := fun V D => ⟨(box2 D.x).1, (box2 D.x).2.1, (box2 D.y).1, (box2 D.y).2.1⟩
  have DD : ∀ V, DuQ w V so sn sc ao an ac uo un uc bo bn bc → DuQ w V.drew so sn sc ao an ac uo un uc bo bn bc := fun V D => D.below (B := V.heap.size) (Below.refl _ _).drew D.sz
  clear htl
  have cTy := fun V (D : DuQ w V so sn sc ao an ac uo un uc bo bn bc) => taken_any uo bo un uc bn bc an sy ay V (hy.below D.bel (Nat.le_refl _)) (gy.below D.bel (Nat.le_refl _)) gsy an4 h12
  have cTx := fun V (D : DuQ w V so sn sc ao an ac uo un uc bo bn bc) => taken_any so ao sn sc an ac tl sx ax V (hx.below D.bel (Nat.le_refl _)) (gx.below D.bel (Nat.le_refl _)) gsx tl4 h11
  have cRp := fun V to' bo' tn tc vn vc (h : Rd V to' tn (takL sy ay an)) (hs : Sl to' tn tc) (g : Rd V bo' vn (takL sx ax tl)) => repeated_any to' bo' tn tc vn vc wd (takL sy ay an) (takL sx ax tl) V h hs g (by rw [← g.len, ← h.len]; exact hcut) (by rw [← h.len]; exact lm) (by rw [← g.len]; exact ln) (fun k hk => hns k (by rw [g.len]; exact hk)) hwT
  have HNL : Hid (∀ V (bo' : Option Addr) vn, Rd V bo' vn (takL sx ax tl) → (takL sx ax tl).length = vn) := fun V bo' vn h => h.len
  clear hns hcut lm ln hwT h11 h12
  have t1 : ((sn : Int) == 0) = false := by simp; omega
  have t1b : (sn == 0) = false := by simp; omega
  have t1c : ¬ sn = 0 := by omega
  subst h2
  go_enter Try.func24, Try.ntmps24
  go_wp2
  go_quiet (fail)
  have DB := D0.drewN nq
  have sB := DB.sz
  obtain ⟨y0, y1, _, _⟩ := box2 DB.x
  obtain ⟨y2, y3, _, _⟩ := box2 DB.y
  go_wp2_with (first
    | (go_at_call 32; (with_reducible refine (hI _ (DB).bel).mono ?_); rintro e w2 ⟨rfl, hw2⟩; rw [hw2]; clear hw2 w2)
    | (go_at_call 33; (with_reducible refine (split1 uo _ uc sy _ (hy.below (DB).bel (Nat.le_refl _)) hsy un4).mono ?_); rintro e w3 ⟨o1, n1, c1, o2, n2, c2, rfl, r3, l3, n24, k3⟩; have D3 := (DB).below k3 (DB).sz; have s3 := D3.sz)
    | (go_at_call 34; (with_reducible refine (conc_T w3 T o2 n2 c2 _ T4 r3 l3 n24).mono ?_); rintro e w4 ⟨o4, c4, rfl, f4, k4⟩; have D4 := D3.below k4 s3; have s4 := D4.sz; have cF := may_any _ _ c4 _ _ f4.rd; rw [hF] at cF)
    | (go_at_call 19; (with_reducible refine cF.mono ?_); rintro e w5 ⟨rfl, hw5⟩; rw [hw5]; clear hw5 w5))
  have D5 := DD _ D4
  have s5 := D5.sz
  have f5 := f4.below (Below.refl w4.heap.size w4).drew (Nat.le_refl _)
  clear hI cF k3 r3 l3
  go_region_held3 (fun V => V.cell? ⟨w.heap.size, 0, none⟩ = some (.slice so sn sc) ∧ V.cell? ⟨w.heap.size, 1, none⟩ = some (.slice ao an ac) ∧ V.cell? ⟨w.heap.size + 1, 0, none⟩ = some (.slice uo 0 uc) ∧ V.cell? ⟨w.heap.size + 1, 1, none⟩ = some (.slice bo bn bc)) (first | exact al _ D5 | exact al _ D6 | exact al _ D7 | exact al _ D8 | exact al _ D9 | exact S9)
    (first
      | (go_at_call 36; (with_reducible refine (cTy _ D5).mono ?_); rintro e w6 ⟨o6, n6, c6, rfl, r6, l6, k6⟩; have D6 := D5.below k6 s5; have s6 := D6.sz)
      | (go_at_call 31; (with_reducible refine (cIt _ D6).mono ?_); rintro e w7 ⟨rfl, k7⟩; have D7 := D6.below k7 s6; have s7 := D7.sz; have r7 := r6.below k7 (Nat.le_refl _))
      | (go_at_call 36; (with_reducible refine (cTx _ D7).mono ?_); rintro e w8 ⟨o8, n8, c8, rfl, r8, l8, k8⟩; have D8 := D7.below k8 s7; have s8 := D8.sz; have r9 := r7.below k8 (Nat.le_refl _))
      | (go_at_call 35; (with_reducible refine (cRp _ _ _ _ _ _ _ r9 l6 r8).mono ?_); rintro e w9 ⟨o9, n9, c9, rfl, f9, k9⟩; have D9 := D8.below k9 s8; have s9 := D9.sz; have k59 := ((k6.trans (k7.mono k6.size)).trans (k8.mono (Nat.le_trans k6.size k7.size))).trans (k9.mono (Nat.le_trans (Nat.le_trans k6.size k7.size) k8.size)); have f10 := f5.below k59 (Nat.le_refl _); obtain ⟨q0, q1, q2, q3⟩ := box2 D9.r; have kk := set2 w9 (w.heap.size + 1 + 1) 0 1 (.slice o4 (1 + n2) c4) (.slice o9 n9 c9); have yy := box2 ((kk.block (w.heap.size + 1) (by omega) (fun e => by injection e with e; omega)).trans D9.y); have xx := box2 ((kk.block w.heap.size (by omega) (fun e => by injection e with e; omega)).trans D9.x); have S9 : _ ∧ _ ∧ _ ∧ _ := ⟨xx.1, xx.2.1, yy.1, yy.2.1⟩))
  go_wp2
  (try simp only [Exit.inBlock, Exit.then])
  refine bodyPost_ret (v := .tuple #[.agg #[.slice o4 (1 + n2) c4, .slice o9 n9 c9], .int .i64 0]) (by rw [results_cell_tmp rfl]; go_simp) rfl ?_
  have e8 := HNL.out _ _ _ r8
  rw [← e8] at f9
  have s45 := k4.size
  have s3' := D4.sz
  exact ⟨_, _, _, _, _, _, _, _, rfl, (ft_setQ (f10.mono (show w.heap.size + 3 ≤ _ from s3)) (by omega) _ _).mono (by omega), (ft_setQ f9 (by omega) _ _).mono (by omega), ⟨rfl, rfl⟩, below_set2 _ _ _ _ D9.bel (by omega) (Nat.le_refl _)⟩

set_option maxHeartbeats 4000000 in
set_option maxRecDepth 20000 in
theorem copies_ok_c (so ao uo bo : Option Addr) (sn sc an ac un uc bn bc : Nat) (sx ax sy ay : List Int) (w : World) (hx : Rd w so sn sx) (gx : Rd w ao an ax) (gsx : Sl ao an ac) (hy : Rd w uo un sy) (hsy : Sl uo un uc) (gy : Rd w bo bn ay) (gsy : Sl bo bn bc) (tl : Nat) (htl : itm sy ay = (tl : Int)) (tl4 : tl ≤ 4096) (an4 : an ≤ 4096) (un4 : un ≤ 4096) (h1 : 0 < sn) (h2 : 0 < un) (hb : an = tl) (T : Nat) (T4 : T ≤ 4096) (hI : ∀ V, Below w.heap.size w V → Calls Try.prog 32 #[.slice ao an ac, .int .i64 1] V fun e w' => e = .returned (.tuple #[.int .i64 (T : Nat), .int .i64 0]) ∧ w' = V) (hF : mayF ((T : Int) :: sy.drop 1) = 0) (wd : Nat) (hcut : (takL sx ax tl).length * wd = (takL sy ay an).length) (lm : (takL sy ay an).length ≤ 4096) (ln : (takL sx ax tl).length ≤ 4096) (hns : ∀ k, k < (takL sx ax tl).length → 0 ≤ nth (takL sx ax tl) k ∧ nth (takL sx ax tl) k ≤ 4096) (hwT : (wd : Int) * sm (takL sx ax tl) ≤ 4096) (h11 : sn = 0 → an = 1) (h12 : un = 0 → bn = 1) :
    Calls Try.prog 24 #[.agg #[.slice so sn sc, .slice ao an ac], .agg #[.slice uo un uc, .slice bo bn bc]] w fun e w' => AnsQ w (fun S A => S = (T : Int) :: sy.drop 1 ∧ A = rpd (takL sy ay an) wd (takL sx ax tl) (takL sx ax tl).length) 0 e w' := by
  have D0 := du_startQ w so sn sc ao an ac uo un uc bo bn bc
  have s0 := D0.sz
  have cIt := fun V (D : DuQ w V so sn sc ao an ac uo un uc bo bn bc) => items_any uo bo un uc bn bc sy ay V (hy.below D.bel (Nat.le_refl _)) (gy.below D.bel (Nat.le_refl _))
  rw [htl] at cIt
  obtain ⟨x0, x1, _, _⟩ := box2 D0.x
  obtain ⟨x2, x3, _, _⟩ := box2 D0.y
  have al : ∀ V, DuQ w V so sn sc ao an ac uo un uc bo bn bc → V.cell? ⟨w.heap.size, 0, none⟩ = some (.slice so sn sc) ∧ V.cell? ⟨w.heap.size, 1, none⟩ = some (.slice ao an ac) ∧ V.cell? ⟨w.heap.size + 1, 0, none⟩ = some (.slice uo un uc) ∧ V.cell? ⟨w.heap.size + 1, 1, none⟩ = some (.slice bo bn bc) := fun V D => ⟨(box2 D.x).1, (box2 D.x).2.1, (box2 D.y).1, (box2 D.y).2.1⟩
  have DD : ∀ V, DuQ w V so sn sc ao an ac uo un uc bo bn bc → DuQ w V.drew so sn sc ao an ac uo un uc bo bn bc := fun V D => D.below (B := V.heap.size) (Below.refl _ _).drew D.sz
  clear htl
  have cTy := fun V (D : DuQ w V so sn sc ao an ac uo un uc bo bn bc) => taken_any uo bo un uc bn bc an sy ay V (hy.below D.bel (Nat.le_refl _)) (gy.below D.bel (Nat.le_refl _)) gsy an4 h12
  have cTx := fun V (D : DuQ w V so sn sc ao an ac uo un uc bo bn bc) => taken_any so ao sn sc an ac tl sx ax V (hx.below D.bel (Nat.le_refl _)) (gx.below D.bel (Nat.le_refl _)) gsx tl4 h11
  have cRp := fun V to' bo' tn tc vn vc (h : Rd V to' tn (takL sy ay an)) (hs : Sl to' tn tc) (g : Rd V bo' vn (takL sx ax tl)) => repeated_any to' bo' tn tc vn vc wd (takL sy ay an) (takL sx ax tl) V h hs g (by rw [← g.len, ← h.len]; exact hcut) (by rw [← h.len]; exact lm) (by rw [← g.len]; exact ln) (fun k hk => hns k (by rw [g.len]; exact hk)) hwT
  have HNL : Hid (∀ V (bo' : Option Addr) vn, Rd V bo' vn (takL sx ax tl) → (takL sx ax tl).length = vn) := fun V bo' vn h => h.len
  clear hns hcut lm ln hwT h11 h12
  have t1 : ((sn : Int) == 0) = false := by simp; omega
  have t1b : (sn == 0) = false := by simp; omega
  have t1c : ¬ sn = 0 := by omega
  have t2 : decide (0 < un) = true := by simpa using h2
  have t3 : (0 : Int) < (un : Int) := by omega
  have t4 : ((an : Int) != (tl : Int)) = false := by simp; omega
  have t4b : (an != tl) = false := by simpa using hb
  have HB : Hid (an = tl) := hb
  clear hb
  go_enter Try.func24, Try.ntmps24
  go_wp2
  have DB := DD _ D0
  have sB := DB.sz
  go_region_held3 (fun V => V.cell? ⟨w.heap.size, 0, none⟩ = some (.slice so sn sc) ∧ V.cell? ⟨w.heap.size, 1, none⟩ = some (.slice ao an ac) ∧ V.cell? ⟨w.heap.size + 1, 0, none⟩ = some (.slice uo un uc) ∧ V.cell? ⟨w.heap.size + 1, 1, none⟩ = some (.slice bo bn bc)) (first | exact al _ DB | exact al _ D1 | exact al _ D0)
    (first
      | (go_at_call 31; (with_reducible refine (cIt _ DB).mono ?_); rintro e w1 ⟨rfl, k1⟩; have D1 := DB.below k1 sB; have s1 := D1.sz; obtain ⟨y0, y1, _, _⟩ := box2 D1.x; obtain ⟨y2, y3, _, _⟩ := box2 D1.y; obtain ⟨r0, r1, r2, r3⟩ := box2 D1.r))
  go_wp2_with (first
    | (go_at_call 32; (with_reducible refine (hI _ (D1).bel).mono ?_); rintro e w2 ⟨rfl, hw2⟩; rw [hw2]; clear hw2 w2)
    | (go_at_call 33; (with_reducible refine (split1 uo _ uc sy _ (hy.below (D1).bel (Nat.le_refl _)) hsy un4).mono ?_); rintro e w3 ⟨o1, n1, c1, o2, n2, c2, rfl, r3, l3, n24, k3⟩; have D3 := (D1).below k3 (D1).sz; have s3 := D3.sz)
    | (go_at_call 34; (with_reducible refine (conc_T w3 T o2 n2 c2 _ T4 r3 l3 n24).mono ?_); rintro e w4 ⟨o4, c4, rfl, f4, k4⟩; have D4 := D3.below k4 s3; have s4 := D4.sz; have cF := may_any _ _ c4 _ _ f4.rd; rw [hF] at cF)
    | (go_at_call 19; (with_reducible refine cF.mono ?_); rintro e w5 ⟨rfl, hw5⟩; rw [hw5]; clear hw5 w5))
  have D5 := DD _ D4
  have s5 := D5.sz
  have f5 := f4.below (Below.refl w4.heap.size w4).drew (Nat.le_refl _)
  clear hI cF k3 r3 l3
  go_region_held3 (fun V => V.cell? ⟨w.heap.size, 0, none⟩ = some (.slice so sn sc) ∧ V.cell? ⟨w.heap.size, 1, none⟩ = some (.slice ao an ac) ∧ V.cell? ⟨w.heap.size + 1, 0, none⟩ = some (.slice uo un uc) ∧ V.cell? ⟨w.heap.size + 1, 1, none⟩ = some (.slice bo bn bc)) (first | exact al _ D5 | exact al _ D6 | exact al _ D7 | exact al _ D8 | exact al _ D9 | exact S9)
    (first
      | (go_at_call 36; (with_reducible refine (cTy _ D5).mono ?_); rintro e w6 ⟨o6, n6, c6, rfl, r6, l6, k6⟩; have D6 := D5.below k6 s5; have s6 := D6.sz)
      | (go_at_call 31; (with_reducible refine (cIt _ D6).mono ?_); rintro e w7 ⟨rfl, k7⟩; have D7 := D6.below k7 s6; have s7 := D7.sz; have r7 := r6.below k7 (Nat.le_refl _))
      | (go_at_call 36; (with_reducible refine (cTx _ D7).mono ?_); rintro e w8 ⟨o8, n8, c8, rfl, r8, l8, k8⟩; have D8 := D7.below k8 s7; have s8 := D8.sz; have r9 := r7.below k8 (Nat.le_refl _))
      | (go_at_call 35; (with_reducible refine (cRp _ _ _ _ _ _ _ r9 l6 r8).mono ?_); rintro e w9 ⟨o9, n9, c9, rfl, f9, k9⟩; have D9 := D8.below k9 s8; have s9 := D9.sz; have k59 := ((k6.trans (k7.mono k6.size)).trans (k8.mono (Nat.le_trans k6.size k7.size))).trans (k9.mono (Nat.le_trans (Nat.le_trans k6.size k7.size) k8.size)); have f10 := f5.below k59 (Nat.le_refl _); obtain ⟨q0, q1, q2, q3⟩ := box2 D9.r; have kk := set2 w9 (w.heap.size + 1 + 1) 0 1 (.slice o4 (1 + n2) c4) (.slice o9 n9 c9); have yy := box2 ((kk.block (w.heap.size + 1) (by omega) (fun e => by injection e with e; omega)).trans D9.y); have xx := box2 ((kk.block w.heap.size (by omega) (fun e => by injection e with e; omega)).trans D9.x); have S9 : _ ∧ _ ∧ _ ∧ _ := ⟨xx.1, xx.2.1, yy.1, yy.2.1⟩))
  go_wp2
  (try simp only [Exit.inBlock, Exit.then])
  refine bodyPost_ret (v := .tuple #[.agg #[.slice o4 (1 + n2) c4, .slice o9 n9 c9], .int .i64 0]) (by rw [results_cell_tmp rfl]; go_simp) rfl ?_
  have e8 := HNL.out _ _ _ r8
  rw [← e8] at f9
  have s45 := k4.size
  have s3' := D4.sz
  exact ⟨_, _, _, _, _, _, _, _, rfl, (ft_setQ (f10.mono (show w.heap.size + 3 ≤ _ from s3)) (by omega) _ _).mono (by omega), (ft_setQ f9 (by omega) _ _).mono (by omega), ⟨rfl, rfl⟩, below_set2 _ _ _ _ D9.bel (by omega) (Nat.le_refl _)⟩
end Go.Proofs.Ytjnlkdeiccllgaa
