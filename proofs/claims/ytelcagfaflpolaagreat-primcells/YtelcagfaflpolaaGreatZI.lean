
/- Contracts of package digit: copying, whatever comes of it; the places of numbers. -/

import Derived.Test.YtelcagfaflpolaaGreatZG
import Derived.Deep.QuietTactic
import Derived.BigQuiet



namespace Go.Proofs.YtelcagfaflpolaaGreat

open Go.RowKit

set_option linter.unusedVariables false

set_option maxHeartbeats 4000000 in
set_option maxRecDepth 20000 in
theorem copies_ok_a (so ao uo bo : Option Addr) (sn sc an ac un uc bn bc : Nat) (sx ax sy ay : List Int) (w : World) (hx : Rd w so sn sx) (gx : Rd w ao an ax) (gsx : Sl ao an ac) (hy : Rd w uo un sy) (hsy : Sl uo un uc) (gy : Rd w bo bn ay) (gsy : Sl bo bn bc) (tl : Nat) (htl : itm sy ay = (tl : Int)) (tl4 : tl ≤ 4096) (an4 : an ≤ 4096) (un4 : un ≤ 4096) (h1 : sn = 0) (T : Nat) (T4 : T ≤ 4096) (hI : ∀ V, Below w.heap.size w V → Calls Tryz.prog 193 #[.slice ao an ac, .int .i64 (tl : Nat)] V fun e w' => e = .returned (.tuple #[.int .i64 (T : Nat), .int .i64 0]) ∧ w' = V) (hF : mayF ((T : Int) :: sy.drop 1) = 0) (wd : Nat) (hcut : (takL sx ax tl).length * wd = (takL sy ay an).length) (lm : (takL sy ay an).length ≤ 4096) (ln : (takL sx ax tl).length ≤ 4096) (hns : ∀ k, k < (takL sx ax tl).length → 0 ≤ nth (takL sx ax tl) k ∧ nth (takL sx ax tl) k ≤ 4096) (hwT : (wd : Int) * sm (takL sx ax tl) ≤ 4096) (h11 : sn = 0 → an = 1) (h12 : un = 0 → bn = 1) :
    Calls Tryz.prog 145 #[.agg #[.slice so sn sc, .slice ao an ac], .agg #[.slice uo un uc, .slice bo bn bc]] w fun e w' => AnsZ w (fun S A => S = (T : Int) :: sy.drop 1 ∧ A = rpd (takL sy ay an) wd (takL sx ax tl) (takL sx ax tl).length) 0 e w' := by
  have D0 := du_startZ w so sn sc ao an ac uo un uc bo bn bc
  have s0 := D0.sz
  have cIt := fun V (D : DuZ w V so sn sc ao an ac uo un uc bo bn bc) => items_any uo bo un uc bn bc sy ay V (hy.below D.bel (Nat.le_refl _)) (gy.below D.bel (Nat.le_refl _))
  rw [htl] at cIt
  obtain ⟨x0, x1, _, _⟩ := box2 D0.x
  obtain ⟨x2, x3, _, _⟩ := box2 D0.y
  have al : ∀ V, DuZ w V so sn sc ao an ac uo un uc bo bn bc → V.cell? ⟨w.heap.size, 0, none⟩ = some (.slice so sn sc) ∧ V.cell? ⟨w.heap.size, 1, none⟩ = some (.slice ao an ac) ∧ V.cell? ⟨w.heap.size + 1, 0, none⟩ = some (.slice uo un uc) ∧ V.cell? ⟨w.heap.size + 1, 1, none⟩ = some (.slice bo bn bc) := fun V D => ⟨(box2 D.x).1, (box2 D.x).2.1, (box2 D.y).1, (box2 D.y).2.1⟩
  have DD : ∀ V, DuZ w V so sn sc ao an ac uo un uc bo bn bc → DuZ w V.drew so sn sc ao an ac uo un uc bo bn bc := fun V D => D.below (B := V.heap.size) (Below.refl _ _).drew D.sz
  clear htl
  have cTy := fun V (D : DuZ w V so sn sc ao an ac uo un uc bo bn bc) => taken_any uo bo un uc bn bc an sy ay V (hy.below D.bel (Nat.le_refl _)) (gy.below D.bel (Nat.le_refl _)) gsy an4 h12
  have cTx := fun V (D : DuZ w V so sn sc ao an ac uo un uc bo bn bc) => taken_any so ao sn sc an ac tl sx ax V (hx.below D.bel (Nat.le_refl _)) (gx.below D.bel (Nat.le_refl _)) gsx tl4 h11
  have cRp := fun V to' bo' tn tc vn vc (h : Rd V to' tn (takL sy ay an)) (hs : Sl to' tn tc) (g : Rd V bo' vn (takL sx ax tl)) => repeated_any to' bo' tn tc vn vc wd (takL sy ay an) (takL sx ax tl) V h hs g (by rw [← g.len, ← h.len]; exact hcut) (by rw [← h.len]; exact lm) (by rw [← g.len]; exact ln) (fun k hk => hns k (by rw [g.len]; exact hk)) hwT
  have HNL : Hid (∀ V (bo' : Option Addr) vn, Rd V bo' vn (takL sx ax tl) → (takL sx ax tl).length = vn) := fun V bo' vn h => h.len
  clear hns hcut lm ln hwT h11 h12
  subst h1
  go_enter Tryz.func145, Tryz.ntmps145
  go_wp2_with (first
    | (go_at_call 182; (with_reducible refine (cIt _ D0).mono ?_); rintro e w1 ⟨rfl, k1⟩; have D1 := D0.below k1 s0; have s1 := D1.sz; obtain ⟨y0, y1, _, _⟩ := box2 D1.x; obtain ⟨y2, y3, _, _⟩ := box2 D1.y)
    | (go_at_call 193; (with_reducible refine (hI _ (D1).bel).mono ?_); rintro e w2 ⟨rfl, hw2⟩; rw [hw2]; clear hw2 w2)
    | (go_at_call 33; (with_reducible refine (split1 uo _ uc sy _ (hy.below (D1).bel (Nat.le_refl _)) hsy un4).mono ?_); rintro e w3 ⟨o1, n1, c1, o2, n2, c2, rfl, r3, l3, n24, k3⟩; have D3 := (D1).below k3 (D1).sz; have s3 := D3.sz)
    | (go_at_call 41; (with_reducible refine (conc_T w3 T o2 n2 c2 _ T4 r3 l3 n24).mono ?_); rintro e w4 ⟨o4, c4, rfl, f4, k4⟩; have D4 := D3.below k4 s3; have s4 := D4.sz; have cF := may_any _ _ c4 _ _ f4.rd; rw [hF] at cF)
    | (go_at_call 40; (with_reducible refine cF.mono ?_); rintro e w5 ⟨rfl, hw5⟩; rw [hw5]; clear hw5 w5))
  have D5 := DD _ D4
  have s5 := D5.sz
  have f5 := f4.below (Below.refl w4.heap.size w4).drew (Nat.le_refl _)
  clear hI cF k3 r3 l3
  go_region_held3 (fun V => V.cell? ⟨w.heap.size, 0, none⟩ = some (.slice so 0 sc) ∧ V.cell? ⟨w.heap.size, 1, none⟩ = some (.slice ao an ac) ∧ V.cell? ⟨w.heap.size + 1, 0, none⟩ = some (.slice uo un uc) ∧ V.cell? ⟨w.heap.size + 1, 1, none⟩ = some (.slice bo bn bc)) (first | exact al _ D5 | exact al _ D6 | exact al _ D7 | exact al _ D8 | exact al _ D9 | exact S9)
    (first
      | (go_at_call 195; (with_reducible refine (cTy _ D5).mono ?_); rintro e w6 ⟨o6, n6, c6, rfl, r6, l6, k6⟩; have D6 := D5.below k6 s5; have s6 := D6.sz)
      | (go_at_call 182; (with_reducible refine (cIt _ D6).mono ?_); rintro e w7 ⟨rfl, k7⟩; have D7 := D6.below k7 s6; have s7 := D7.sz; have r7 := r6.below k7 (Nat.le_refl _))
      | (go_at_call 195; (with_reducible refine (cTx _ D7).mono ?_); rintro e w8 ⟨o8, n8, c8, rfl, r8, l8, k8⟩; have D8 := D7.below k8 s7; have s8 := D8.sz; have r9 := r7.below k8 (Nat.le_refl _))
      | (go_at_call 194; (with_reducible refine (cRp _ _ _ _ _ _ _ r9 l6 r8).mono ?_); rintro e w9 ⟨o9, n9, c9, rfl, f9, k9⟩; have D9 := D8.below k9 s8; have s9 := D9.sz; have k59 := ((k6.trans (k7.mono k6.size)).trans (k8.mono (Nat.le_trans k6.size k7.size))).trans (k9.mono (Nat.le_trans (Nat.le_trans k6.size k7.size) k8.size)); have f10 := f5.below k59 (Nat.le_refl _); obtain ⟨q0, q1, q2, q3⟩ := box2 D9.r; have kk := set2 w9 (w.heap.size + 1 + 1) 0 1 (.slice o4 (1 + n2) c4) (.slice o9 n9 c9); have yy := box2 ((kk.block (w.heap.size + 1) (by omega) (fun e => by injection e with e; omega)).trans D9.y); have xx := box2 ((kk.block w.heap.size (by omega) (fun e => by injection e with e; omega)).trans D9.x); have S9 : _ ∧ _ ∧ _ ∧ _ := ⟨xx.1, xx.2.1, yy.1, yy.2.1⟩))
  go_wp2
  (try simp only [Exit.inBlock, Exit.then])
  refine bodyPost_ret (v := .tuple #[.agg #[.slice o4 (1 + n2) c4, .slice o9 n9 c9], .int .i64 0]) (by rw [results_cell_tmp rfl]; go_simp) rfl ?_
  have e8 := HNL.out _ _ _ r8
  rw [← e8] at f9
  have s45 := k4.size
  have s3' := D4.sz
  exact ⟨_, _, _, _, _, _, _, _, rfl, (ft_setZ (f10.mono (show w.heap.size + 3 ≤ _ from s3)) (by omega) _ _).mono (by omega), (ft_setZ f9 (by omega) _ _).mono (by omega), ⟨rfl, rfl⟩, below_set2 _ _ _ _ D9.bel (by omega) (Nat.le_refl _)⟩

set_option maxHeartbeats 4000000 in
set_option maxRecDepth 20000 in
theorem copies_ok_b (so ao uo bo : Option Addr) (sn sc an ac un uc bn bc : Nat) (sx ax sy ay : List Int) (w : World) (hx : Rd w so sn sx) (gx : Rd w ao an ax) (gsx : Sl ao an ac) (hy : Rd w uo un sy) (hsy : Sl uo un uc) (gy : Rd w bo bn ay) (gsy : Sl bo bn bc) (tl : Nat) (htl : itm sy ay = (tl : Int)) (tl4 : tl ≤ 4096) (an4 : an ≤ 4096) (un4 : un ≤ 4096) (h1 : 0 < sn) (h2 : un = 0) (T : Nat) (T4 : T ≤ 4096) (hI : ∀ V, Below w.heap.size w V → Calls Tryz.prog 193 #[.slice ao an ac, .int .i64 1] V fun e w' => e = .returned (.tuple #[.int .i64 (T : Nat), .int .i64 0]) ∧ w' = V) (hF : mayF ((T : Int) :: sy.drop 1) = 0) (wd : Nat) (hcut : (takL sx ax tl).length * wd = (takL sy ay an).length) (lm : (takL sy ay an).length ≤ 4096) (ln : (takL sx ax tl).length ≤ 4096) (hns : ∀ k, k < (takL sx ax tl).length → 0 ≤ nth (takL sx ax tl) k ∧ nth (takL sx ax tl) k ≤ 4096) (hwT : (wd : Int) * sm (takL sx ax tl) ≤ 4096) (h11 : sn = 0 → an = 1) (h12 : un = 0 → bn = 1) :
    Calls Tryz.prog 145 #[.agg #[.slice so sn sc, .slice ao an ac], .agg #[.slice uo un uc, .slice bo bn bc]] w fun e w' => AnsZ w (fun S A => S = (T : Int) :: sy.drop 1 ∧ A = rpd (takL sy ay an) wd (takL sx ax tl) (takL sx ax tl).length) 0 e w' := by
  have D0 := du_startZ w so sn sc ao an ac uo un uc bo bn bc
  have s0 := D0.sz
  have cIt := fun V (D : DuZ w V so sn sc ao an ac uo un uc bo bn bc) => items_any uo bo un uc bn bc sy ay V (hy.below D.bel (Nat.le_refl _)) (gy.below D.bel (Nat.le_refl _))
  rw [htl] at cIt
  obtain ⟨x0, x1, _, _⟩ := box2 D0.x
  obtain ⟨x2, x3, _, _⟩ := box2 D0.y
  have al : ∀ V, DuZ w V so sn sc ao an ac uo un uc bo bn bc → V.cell? ⟨w.heap.size, 0, none⟩ = some (.slice so sn sc) ∧ V.cell? ⟨w.heap.size, 1, none⟩ = some (.slice ao an ac) ∧ V.cell? ⟨w.heap.size + 1, 0, none⟩ = some (.slice uo un uc) ∧ V.cell? ⟨w.heap.size + 1, 1, none⟩ = some (.slice bo bn bc) := fun V D => ⟨(box2 D.x).1, (box2 D.x).2.1, (box2 D.y).1, (box2 D.y).2.1⟩
  have DD : ∀ V, DuZ w V so sn sc ao an ac uo un uc bo bn bc → DuZ w V.drew so sn sc ao an ac uo un uc bo bn bc := fun V D => D.below (B := V.heap.size) (Below.refl _ _).drew D.sz
  clear htl
  have cTy := fun V (D : DuZ w V so sn sc ao an ac uo un uc bo bn bc) => taken_any uo bo un uc bn bc an sy ay V (hy.below D.bel (Nat.le_refl _)) (gy.below D.bel (Nat.le_refl _)) gsy an4 h12
  have cTx := fun V (D : DuZ w V so sn sc ao an ac uo un uc bo bn bc) => taken_any so ao sn sc an ac tl sx ax V (hx.below D.bel (Nat.le_refl _)) (gx.below D.bel (Nat.le_refl _)) gsx tl4 h11
  have cRp := fun V to' bo' tn tc vn vc (h : Rd V to' tn (takL sy ay an)) (hs : Sl to' tn tc) (g : Rd V bo' vn (takL sx ax tl)) => repeated_any to' bo' tn tc vn vc wd (takL sy ay an) (takL sx ax tl) V h hs g (by rw [← g.len, ← h.len]; exact hcut) (by rw [← h.len]; exact lm) (by rw [← g.len]; exact ln) (fun k hk => hns k (by rw [g.len]; exact hk)) hwT
  have HNL : Hid (∀ V (bo' : Option Addr) vn, Rd V bo' vn (takL sx ax tl) → (takL sx ax tl).length = vn) := fun V bo' vn h => h.len
  clear hns hcut lm ln hwT h11 h12
  have t1 : ((sn : Int) == 0) = false := by simp; omega
  have t1b : (sn == 0) = false := by simp; omega
  have t1c : ¬ sn = 0 := by omega
  subst h2
  go_enter Tryz.func145, Tryz.ntmps145
  go_wp2
  go_quiet (fail)
  have DB := D0.drewN nq
  have sB := DB.sz
  obtain ⟨y0, y1, _, _⟩ := box2 DB.x
  obtain ⟨y2, y3, _, _⟩ := box2 DB.y
  go_wp2_with (first
    | (go_at_call 193; (with_reducible refine (hI _ (DB).bel).mono ?_); rintro e w2 ⟨rfl, hw2⟩; rw [hw2]; clear hw2 w2)
    | (go_at_call 33; (with_reducible refine (split1 uo _ uc sy _ (hy.below (DB).bel (Nat.le_refl _)) hsy un4).mono ?_); rintro e w3 ⟨o1, n1, c1, o2, n2, c2, rfl, r3, l3, n24, k3⟩; have D3 := (DB).below k3 (DB).sz; have s3 := D3.sz)
    | (go_at_call 41; (with_reducible refine (conc_T w3 T o2 n2 c2 _ T4 r3 l3 n24).mono ?_); rintro e w4 ⟨o4, c4, rfl, f4, k4⟩; have D4 := D3.below k4 s3; have s4 := D4.sz; have cF := may_any _ _ c4 _ _ f4.rd; rw [hF] at cF)
    | (go_at_call 40; (with_reducible refine cF.mono ?_); rintro e w5 ⟨rfl, hw5⟩; rw [hw5]; clear hw5 w5))
  have D5 := DD _ D4
  have s5 := D5.sz
  have f5 := f4.below (Below.refl w4.heap.size w4).drew (Nat.le_refl _)
  clear hI cF k3 r3 l3
  go_region_held3 (fun V => V.cell? ⟨w.heap.size, 0, none⟩ = some (.slice so sn sc) ∧ V.cell? ⟨w.heap.size, 1, none⟩ = some (.slice ao an ac) ∧ V.cell? ⟨w.heap.size + 1, 0, none⟩ = some (.slice uo 0 uc) ∧ V.cell? ⟨w.heap.size + 1, 1, none⟩ = some (.slice bo bn bc)) (first | exact al _ D5 | exact al _ D6 | exact al _ D7 | exact al _ D8 | exact al _ D9 | exact S9)
    (first
      | (go_at_call 195; (with_reducible refine (cTy _ D5).mono ?_); rintro e w6 ⟨o6, n6, c6, rfl, r6, l6, k6⟩; have D6 := D5.below k6 s5; have s6 := D6.sz)
      | (go_at_call 182; (with_reducible refine (cIt _ D6).mono ?_); rintro e w7 ⟨rfl, k7⟩; have D7 := D6.below k7 s6; have s7 := D7.sz; have r7 := r6.below k7 (Nat.le_refl _))
      | (go_at_call 195; (with_reducible refine (cTx _ D7).mono ?_); rintro e w8 ⟨o8, n8, c8, rfl, r8, l8, k8⟩; have D8 := D7.below k8 s7; have s8 := D8.sz; have r9 := r7.below k8 (Nat.le_refl _))
      | (go_at_call 194; (with_reducible refine (cRp _ _ _ _ _ _ _ r9 l6 r8).mono ?_); rintro e w9 ⟨o9, n9, c9, rfl, f9, k9⟩; have D9 := D8.below k9 s8; have s9 := D9.sz; have k59 := ((k6.trans (k7.mono k6.size)).trans (k8.mono (Nat.le_trans k6.size k7.size))).trans (k9.mono (Nat.le_trans (Nat.le_trans k6.size k7.size) k8.size)); have f10 := f5.below k59 (Nat.le_refl _); obtain ⟨q0, q1, q2, q3⟩ := box2 D9.r; have kk := set2 w9 (w.heap.size + 1 + 1) 0 1 (.slice o4 (1 + n2) c4) (.slice o9 n9 c9); have yy := box2 ((kk.block (w.heap.size + 1) (by omega) (fun e => by injection e with e; omega)).trans D9.y); have xx := box2 ((kk.block w.heap.size (by omega) (fun e => by injection e with e; omega)).trans D9.x); have S9 : _ ∧ _ ∧ _ ∧ _ := ⟨xx.1, xx.2.1, yy.1, yy.2.1⟩))
  go_wp2
  (try simp only [Exit.inBlock, Exit.then])
  refine bodyPost_ret (v := .tuple #[.agg #[.slice o4 (1 + n2) c4, .slice o9 n9 c9], .int .i64 0]) (by rw [results_cell_tmp rfl]; go_simp) rfl ?_
  have e8 := HNL.out _ _ _ r8
  rw [← e8] at f9
  have s45 := k4.size
  have s3' := D4.sz
  exact ⟨_, _, _, _, _, _, _, _, rfl, (ft_setZ (f10.mono (show w.heap.size + 3 ≤ _ from s3)) (by omega) _ _).mono (by omega), (ft_setZ f9 (by omega) _ _).mono (by omega), ⟨rfl, rfl⟩, below_set2 _ _ _ _ D9.bel (by omega) (Nat.le_refl _)⟩

set_option maxHeartbeats 4000000 in
set_option maxRecDepth 20000 in
theorem copies_ok_c (so ao uo bo : Option Addr) (sn sc an ac un uc bn bc : Nat) (sx ax sy ay : List Int) (w : World) (hx : Rd w so sn sx) (gx : Rd w ao an ax) (gsx : Sl ao an ac) (hy : Rd w uo un sy) (hsy : Sl uo un uc) (gy : Rd w bo bn ay) (gsy : Sl bo bn bc) (tl : Nat) (htl : itm sy ay = (tl : Int)) (tl4 : tl ≤ 4096) (an4 : an ≤ 4096) (un4 : un ≤ 4096) (h1 : 0 < sn) (h2 : 0 < un) (hb : an = tl) (T : Nat) (T4 : T ≤ 4096) (hI : ∀ V, Below w.heap.size w V → Calls Tryz.prog 193 #[.slice ao an ac, .int .i64 1] V fun e w' => e = .returned (.tuple #[.int .i64 (T : Nat), .int .i64 0]) ∧ w' = V) (hF : mayF ((T : Int) :: sy.drop 1) = 0) (wd : Nat) (hcut : (takL sx ax tl).length * wd = (takL sy ay an).length) (lm : (takL sy ay an).length ≤ 4096) (ln : (takL sx ax tl).length ≤ 4096) (hns : ∀ k, k < (takL sx ax tl).length → 0 ≤ nth (takL sx ax tl) k ∧ nth (takL sx ax tl) k ≤ 4096) (hwT : (wd : Int) * sm (takL sx ax tl) ≤ 4096) (h11 : sn = 0 → an = 1) (h12 : un = 0 → bn = 1) :
    Calls Tryz.prog 145 #[.agg #[.slice so sn sc, .slice ao an ac], .agg #[.slice uo un uc, .slice bo bn bc]] w fun e w' => AnsZ w (fun S A => S = (T : Int) :: sy.drop 1 ∧ A = rpd (takL sy ay an) wd (takL sx ax tl) (takL sx ax tl).length) 0 e w' := by
  have D0 := du_startZ w so sn sc ao an ac uo un uc bo bn bc
  have s0 := D0.sz
  have cIt := fun V (D : DuZ w V so sn sc ao an ac uo un uc bo bn bc) => items_any uo bo un uc bn bc sy ay V (hy.below D.bel (Nat.le_refl _)) (gy.below D.bel (Nat.le_refl _))
  rw [htl] at cIt
  obtain ⟨x0, x1, _, _⟩ := box2 D0.x
  obtain ⟨x2, x3, _, _⟩ := box2 D0.y
  have al : ∀ V, DuZ w V so sn sc ao an ac uo un uc bo bn bc → V.cell? ⟨w.heap.size, 0, none⟩ = some (.slice so sn sc) ∧ V.cell? ⟨w.heap.size, 1, none⟩ = some (.slice ao an ac) ∧ V.cell? ⟨w.heap.size + 1, 0, none⟩ = some (.slice uo un uc) ∧ V.cell? ⟨w.heap.size + 1, 1, none⟩ = some (.slice bo bn bc) := fun V D => ⟨(box2 D.x).1, (box2 D.x).2.1, (box2 D.y).1, (box2 D.y).2.1⟩
  have DD : ∀ V, DuZ w V so sn sc ao an ac uo un uc bo bn bc → DuZ w V.drew so sn sc ao an ac uo un uc bo bn bc := fun V D => D.below (B := V.heap.size) (Below.refl _ _).drew D.sz
  clear htl
  have cTy := fun V (D : DuZ w V so sn sc ao an ac uo un uc bo bn bc) => taken_any uo bo un uc bn bc an sy ay V (hy.below D.bel (Nat.le_refl _)) (gy.below D.bel (Nat.le_refl _)) gsy an4 h12
  have cTx := fun V (D : DuZ w V so sn sc ao an ac uo un uc bo bn bc) => taken_any so ao sn sc an ac tl sx ax V (hx.below D.bel (Nat.le_refl _)) (gx.below D.bel (Nat.le_refl _)) gsx tl4 h11
  have cRp := fun V to' bo' tn tc vn vc (h : Rd V to' tn (takL sy ay an)) (hs : Sl to' tn tc) (g : Rd V bo' vn (takL sx ax tl)) => repeated_any to' bo' tn tc vn vc wd (takL sy ay an) (takL sx ax tl) V h hs g (by rw [← g.len, ← h.len]; exact hcut) (by rw [← h.len]; exact lm) (by rw [← g.len]; exact ln) (fun k hk => hns k (by rw [g.len]; exact hk)) hwT
  have HNL : Hid (∀ V (bo' : Option Addr) vn, Rd V bo' vn (takL sx ax tl) → (takL sx ax tl).length = vn) := fun V bo' vn h => h.len
  clear hns hcut lm ln hwT h11 h12
  have t1 : ((sn : Int) == 0) = false := by simp; omega
  have t1b : (sn == 0) = false := by simp; omega
  have t1c : ¬ sn = 0 := by omega
  have t2 : decide (0 < un) = true := by simpa using h2
  have t3 : (0 : Int) < (un : Int) := by omega
  have t4 : ((an : Int) != (tl : Int)) = false := by simp; omega
  have t4b : (an != tl) = false := by simpa using hb
  have HB : Hid (an = tl) := hb
  clear hb
  go_enter Tryz.func145, Tryz.ntmps145
  go_wp2
  have DB := DD _ D0
  have sB := DB.sz
  go_region_held3 (fun V => V.cell? ⟨w.heap.size, 0, none⟩ = some (.slice so sn sc) ∧ V.cell? ⟨w.heap.size, 1, none⟩ = some (.slice ao an ac) ∧ V.cell? ⟨w.heap.size + 1, 0, none⟩ = some (.slice uo un uc) ∧ V.cell? ⟨w.heap.size + 1, 1, none⟩ = some (.slice bo bn bc)) (first | exact al _ DB | exact al _ D1 | exact al _ D0)
    (first
      | (go_at_call 182; (with_reducible refine (cIt _ DB).mono ?_); rintro e w1 ⟨rfl, k1⟩; have D1 := DB.below k1 sB; have s1 := D1.sz; obtain ⟨y0, y1, _, _⟩ := box2 D1.x; obtain ⟨y2, y3, _, _⟩ := box2 D1.y; obtain ⟨r0, r1, r2, r3⟩ := box2 D1.r))
  go_wp2_with (first
    | (go_at_call 193; (with_reducible refine (hI _ (D1).bel).mono ?_); rintro e w2 ⟨rfl, hw2⟩; rw [hw2]; clear hw2 w2)
    | (go_at_call 33; (with_reducible refine (split1 uo _ uc sy _ (hy.below (D1).bel (Nat.le_refl _)) hsy un4).mono ?_); rintro e w3 ⟨o1, n1, c1, o2, n2, c2, rfl, r3, l3, n24, k3⟩; have D3 := (D1).below k3 (D1).sz; have s3 := D3.sz)
    | (go_at_call 41; (with_reducible refine (conc_T w3 T o2 n2 c2 _ T4 r3 l3 n24).mono ?_); rintro e w4 ⟨o4, c4, rfl, f4, k4⟩; have D4 := D3.below k4 s3; have s4 := D4.sz; have cF := may_any _ _ c4 _ _ f4.rd; rw [hF] at cF)
    | (go_at_call 40; (with_reducible refine cF.mono ?_); rintro e w5 ⟨rfl, hw5⟩; rw [hw5]; clear hw5 w5))
  have D5 := DD _ D4
  have s5 := D5.sz
  have f5 := f4.below (Below.refl w4.heap.size w4).drew (Nat.le_refl _)
  clear hI cF k3 r3 l3
  go_region_held3 (fun V => V.cell? ⟨w.heap.size, 0, none⟩ = some (.slice so sn sc) ∧ V.cell? ⟨w.heap.size, 1, none⟩ = some (.slice ao an ac) ∧ V.cell? ⟨w.heap.size + 1, 0, none⟩ = some (.slice uo un uc) ∧ V.cell? ⟨w.heap.size + 1, 1, none⟩ = some (.slice bo bn bc)) (first | exact al _ D5 | exact al _ D6 | exact al _ D7 | exact al _ D8 | exact al _ D9 | exact S9)
    (first
      | (go_at_call 195; (with_reducible refine (cTy _ D5).mono ?_); rintro e w6 ⟨o6, n6, c6, rfl, r6, l6, k6⟩; have D6 := D5.below k6 s5; have s6 := D6.sz)
      | (go_at_call 182; (with_reducible refine (cIt _ D6).mono ?_); rintro e w7 ⟨rfl, k7⟩; have D7 := D6.below k7 s6; have s7 := D7.sz; have r7 := r6.below k7 (Nat.le_refl _))
      | (go_at_call 195; (with_reducible refine (cTx _ D7).mono ?_); rintro e w8 ⟨o8, n8, c8, rfl, r8, l8, k8⟩; have D8 := D7.below k8 s7; have s8 := D8.sz; have r9 := r7.below k8 (Nat.le_refl _))
      | (go_at_call 194; (with_reducible refine (cRp _ _ _ _ _ _ _ r9 l6 r8).mono ?_); rintro e w9 ⟨o9, n9, c9, rfl, f9, k9⟩; have D9 := D8.below k9 s8; have s9 := D9.sz; have k59 := ((k6.trans (k7.mono k6.size)).trans (k8.mono (Nat.le_trans k6.size k7.size))).trans (k9.mono (Nat.le_trans (Nat.le_trans k6.size k7.size) k8.size)); have f10 := f5.below k59 (Nat.le_refl _); obtain ⟨q0, q1, q2, q3⟩ := box2 D9.r; have kk := set2 w9 (w.heap.size + 1 + 1) 0 1 (.slice o4 (1 + n2) c4) (.slice o9 n9 c9); have yy := box2 ((kk.block (w.heap.size + 1) (by omega) (fun e => by injection e with e; omega)).trans D9.y); have xx := box2 ((kk.block w.heap.size (by omega) (fun e => by injection e with e; omega)).trans D9.x); have S9 : _ ∧ _ ∧ _ ∧ _ := ⟨xx.1, xx.2.1, yy.1, yy.2.1⟩))
  go_wp2
  (try simp only [Exit.inBlock, Exit.then])
  refine bodyPost_ret (v := .tuple #[.agg #[.slice o4 (1 + n2) c4, .slice o9 n9 c9], .int .i64 0]) (by rw [results_cell_tmp rfl]; go_simp) rfl ?_
  have e8 := HNL.out _ _ _ r8
  rw [← e8] at f9
  have s45 := k4.size
  have s3' := D4.sz
  exact ⟨_, _, _, _, _, _, _, _, rfl, (ft_setZ (f10.mono (show w.heap.size + 3 ≤ _ from s3)) (by omega) _ _).mono (by omega), (ft_setZ f9 (by omega) _ _).mono (by omega), ⟨rfl, rfl⟩, below_set2 _ _ _ _ D9.bel (by omega) (Nat.le_refl _)⟩
end Go.Proofs.YtelcagfaflpolaaGreat


namespace Go.Proofs.YtelcagfaflpolaaGreat

open Go.RowKit

set_option linter.unusedVariables false

/-- The number of all items that are asked for. -/
def cpT (sx ax sy : List Int) : Int := cpR sx sy * sm ax
/-- What copying tells. -/
def cpE (sx ax sy : List Int) : Int :=
  if sx.length ≠ 0 ∧ sy.length ≠ 0 ∧ (ax.length : Int) ≠ tal sy then 11 else if (ax.any fun z => decide (z < 0)) = true then 10 else if 4096 < cpT sx ax sy then 17 else mayF (cpT sx ax sy :: sy.drop 1)
def cpS (sx ax sy : List Int) : List Int := if cpE sx ax sy = 0 then cpT sx ax sy :: sy.drop 1 else []
def cpA (sx ax sy ay : List Int) : List Int := if cpE sx ax sy = 0 then rpd (takL sy ay ax.length) (wdA sy) (takL sx ax (tal sy).toNat) (takL sx ax (tal sy).toNat).length else []
theorem any_yes {ax : List Int} : (ax.any fun z => decide (z < 0)) = true ↔ ∃ k, k < ax.length ∧ nth ax k < 0 := by
  simp only [List.any_eq_true, decide_eq_true_eq]
  constructor
  · rintro ⟨x, hx, h⟩
    obtain ⟨i, hi, rfl⟩ := List.mem_iff_getElem.1 hx
    exact ⟨i, hi, by rw [nth_lt hi]; exact h⟩
  · rintro ⟨k, hk, h⟩
    exact ⟨_, nth_mem hk, h⟩
theorem pr_T {T : Int} {l : List Int} : pr (T :: l) = T * pr l := pr_cons _ _
set_option maxHeartbeats 2000000 in
theorem copies_any (so ao uo bo : Option Addr) (sn sc an ac un uc bn bc : Nat) (sx ax sy ay : List Int) (w : World) (hx : Rd w so sn sx) (gx : Rd w ao an ax) (gsx : Sl ao an ac) (hy : Rd w uo un sy) (hsy : Sl uo un uc) (gy : Rd w bo bn ay) (gsy : Sl bo bn bc) (mx : mayA sx ax = 0) (my : mayA sy ay = 0) :
    Calls Tryz.prog 145 #[.agg #[.slice so sn sc, .slice ao an ac], .agg #[.slice uo un uc, .slice bo bn bc]] w fun e w' => AnsZ w (fun S A => S = cpS sx ax sy ∧ A = cpA sx ax sy ay) (cpE sx ax sy) e w' := by
  have Lx := hx.len
  have Ax := gx.len
  have Ly := hy.len
  have Ay := gy.len
  have tb := tal_bd (mayA_0 my).1
  obtain ⟨tl, htl⟩ : ∃ tl : Nat, tal sy = (tl : Int) := ⟨(tal sy).toNat, by omega⟩
  have hit : itm sy ay = (tl : Int) := by rw [itm_ok my, htl]
  have an4 : an ≤ 4096 := by rw [← Ax]; exact atoms_le mx
  have un4 : un ≤ 4096 := by have := (mayF_zero (mayA_0 my).1).2.1; omega
  have tl4 : tl ≤ 4096 := by omega
  by_cases hb : sx.length ≠ 0 ∧ sy.length ≠ 0 ∧ (ax.length : Int) ≠ tal sy
  · have e1 : cpE sx ax sy = 11 := by unfold cpE; rw [if_pos hb]
    have e2 : cpS sx ax sy = [] := by unfold cpS; rw [e1]; rfl
    have e3 : cpA sx ax sy ay = [] := by unfold cpA; rw [e1]; rfl
    rw [e1, e2, e3]
    exact copies_len_c so ao uo bo sn sc an ac un uc bn bc sx ax sy ay w hx gx gsx hy hsy gy gsy tl hit tl4 an4 un4 (by omega) (by omega) (by omega)
  · have hl : sx.length = 0 ∨ sy.length = 0 ∨ (ax.length : Int) = tal sy := by
      by_cases a : sx.length = 0
      · exact .inl a
      · by_cases b : sy.length = 0
        · exact .inr (.inl b)
        · by_cases c : (ax.length : Int) = tal sy
          · exact .inr (.inr c)
          · exact absurd ⟨a, b, c⟩ hb
    have C := cp_of mx my hl
    have etl : (tal sy).toNat = tl := by omega
    rw [etl] at C
    have eR : ∃ R : Nat, cpR sx sy = (R : Int) ∧ R ≤ 4096 ∧ (sn = 0 → R = tl) ∧ (0 < sn → R = 1) := by
      unfold cpR
      by_cases a : sx.length = 0
      · rw [if_pos a]; exact ⟨tl, htl, tl4, fun _ => rfl, fun h => by omega⟩
      · rw [if_neg a]; exact ⟨1, rfl, by omega, fun h => by omega, fun _ => rfl⟩
    obtain ⟨R, hR, hR4, hRa, hRb⟩ := eR
    by_cases hneg : (ax.any fun z => decide (z < 0)) = true
    · have e1 : cpE sx ax sy = 10 := by unfold cpE; rw [if_neg hb, if_pos hneg]
      have e2 : cpS sx ax sy = [] := by unfold cpS; rw [e1]; rfl
      have e3 : cpA sx ax sy ay = [] := by unfold cpA; rw [e1]; rfl
      rw [e1, e2, e3]
      obtain ⟨k, k1, k2⟩ := any_yes.1 hneg
      have hI : ∀ (r : Nat) V, Below w.heap.size w V → Calls Tryz.prog 193 #[.slice ao an ac, .int .i64 (r : Nat)] V fun e w' => e = .returned (.tuple #[.int .i64 0, .int .i64 10]) ∧ w' = V := fun r V b => inAll_neg ao an ac r ax V (gx.below b (Nat.le_refl _)) an4 ⟨k, by omega, k2⟩
      have hI1 : ∀ V, Below w.heap.size w V → Calls Tryz.prog 193 #[.slice ao an ac, .int .i64 1] V fun e w' => e = .returned (.tuple #[.int .i64 0, .int .i64 10]) ∧ w' = V := fun V b => by have := hI 1 V b; rw [show ((1 : Nat) : Int) = 1 from rfl] at this; exact this
      by_cases a : sn = 0
      · exact copies_err_a so ao uo bo sn sc an ac un uc bn bc sx ax sy ay w hx gx gsx hy hsy gy gsy tl hit tl4 an4 un4 a 0 10 (by omega) (hI tl)
      · by_cases b : un = 0
        · exact copies_err_b so ao uo bo sn sc an ac un uc bn bc sx ax sy ay w hx gx gsx hy hsy gy gsy tl hit tl4 an4 un4 (by omega) b 0 10 (by omega) hI1
        · exact copies_err_c so ao uo bo sn sc an ac un uc bn bc sx ax sy ay w hx gx gsx hy hsy gy gsy tl hit tl4 an4 un4 (by omega) (by omega) (by rcases hl with h | h | h <;> omega) 0 10 (by omega) hI1
    · have hp : ∀ k, k < an → 0 ≤ nth ax k := fun k hk => by
        by_cases h : nth ax k < 0
        · exact absurd (any_yes.2 ⟨k, by omega, h⟩) hneg
        · omega
      have hsm : 0 ≤ sm ax := by
        have := (sm_up (zs := ax) (fun k hk => hp k (by omega)) ax.length (Nat.le_refl _) ax.length (Nat.le_refl _)).1
        rwa [List.take_length] at this
      have hTp : 0 ≤ cpT sx ax sy := by unfold cpT; exact Int.mul_nonneg (by omega) hsm
      have hI : ∀ V, Below w.heap.size w V → Calls Tryz.prog 193 #[.slice ao an ac, .int .i64 (R : Nat)] V fun e w' => e = .returned (.tuple #[.int .i64 (iaN (cpT sx ax sy)), .int .i64 (iaE (cpT sx ax sy))]) ∧ w' = V := fun V b => by
        have := inAll_any ao an ac R ax V (gx.below b (Nat.le_refl _)) an4 hR4 hp
        rw [show cpT sx ax sy = (R : Int) * sm ax by unfold cpT; rw [hR]]
        exact this
      by_cases hbig : 4096 < cpT sx ax sy
      · have e1 : cpE sx ax sy = 17 := by unfold cpE; rw [if_neg hb, if_neg hneg, if_pos hbig]
        have e2 : cpS sx ax sy = [] := by unfold cpS; rw [e1]; rfl
        have e3 : cpA sx ax sy ay = [] := by unfold cpA; rw [e1]; rfl
        rw [e1, e2, e3]
        rw [show iaE (cpT sx ax sy) = 17 from if_pos hbig] at hI
        by_cases a : sn = 0
        · rw [hRa a] at hI
          exact copies_err_a so ao uo bo sn sc an ac un uc bn bc sx ax sy ay w hx gx gsx hy hsy gy gsy tl hit tl4 an4 un4 a _ 17 (by omega) hI
        · rw [hRb (by omega), show ((1 : Nat) : Int) = 1 from rfl] at hI
          by_cases b : un = 0
          · exact copies_err_b so ao uo bo sn sc an ac un uc bn bc sx ax sy ay w hx gx gsx hy hsy gy gsy tl hit tl4 an4 un4 (by omega) b _ 17 (by omega) hI
          · exact copies_err_c so ao uo bo sn sc an ac un uc bn bc sx ax sy ay w hx gx gsx hy hsy gy gsy tl hit tl4 an4 un4 (by omega) (by omega) (by rcases hl with h | h | h <;> omega) _ 17 (by omega) hI
      · obtain ⟨T, hT⟩ : ∃ T : Nat, cpT sx ax sy = (T : Int) := ⟨(cpT sx ax sy).toNat, by omega⟩
        have T4 : T ≤ 4096 := by omega
        rw [show iaE (cpT sx ax sy) = 0 from if_neg hbig, show iaN (cpT sx ax sy) = cpT sx ax sy from if_neg hbig, hT] at hI
        have e1 : cpE sx ax sy = mayF ((T : Int) :: sy.drop 1) := by unfold cpE; rw [if_neg hb, if_neg hneg, if_neg hbig, hT]
        by_cases hF : mayF ((T : Int) :: sy.drop 1) = 0
        · have e2 : cpS sx ax sy = (T : Int) :: sy.drop 1 := by unfold cpS; rw [e1, hF, hT]; rfl
          have e3 : cpA sx ax sy ay = rpd (takL sy ay an) (wdA sy) (takL sx ax tl) (takL sx ax tl).length := by unfold cpA; rw [e1, hF, etl, Ax]; rfl
          rw [e1, e2, e3, hF]
          have c1 := C.cut
          have c2 := C.lm
          rw [Ax] at c1 c2
          have sT : sm (takL sx ax tl) = (T : Int) := by rw [C.sum]; exact hT
          have wb := wdA_eq (mayA_0 my).1
          have pT := pr_le hF
          rw [pr_T, ← wb.1] at pT
          have pw : ((wdA sy : Nat) : Int) * sm (takL sx ax tl) ≤ 4096 := by rw [sT, Int.mul_comm]; exact pT.2
          have pn := numbers_bd (takL_pos (sx := sx) (n := tl) (fun k hk => hp k (by omega))) (by rw [sT]; omega)
          by_cases a : sn = 0
          · rw [hRa a] at hI
            exact copies_ok_a so ao uo bo sn sc an ac un uc bn bc sx ax sy ay w hx gx gsx hy hsy gy gsy tl hit tl4 an4 un4 a T T4 hI hF (wdA sy) c1 c2 C.ln pn pw (fun h => by have := C.xs (by omega); omega) (fun h => by have := C.ys (by omega); omega)
          · rw [hRb (by omega), show ((1 : Nat) : Int) = 1 from rfl] at hI
            by_cases b : un = 0
            · exact copies_ok_b so ao uo bo sn sc an ac un uc bn bc sx ax sy ay w hx gx gsx hy hsy gy gsy tl hit tl4 an4 un4 (by omega) b T T4 hI hF (wdA sy) c1 c2 C.ln pn pw (fun h => by have := C.xs (by omega); omega) (fun h => by have := C.ys (by omega); omega)
            · exact copies_ok_c so ao uo bo sn sc an ac un uc bn bc sx ax sy ay w hx gx gsx hy hsy gy gsy tl hit tl4 an4 un4 (by omega) (by omega) (by rcases hl with h | h | h <;> omega) T T4 hI hF (wdA sy) c1 c2 C.ln pn pw (fun h => by have := C.xs (by omega); omega) (fun h => by have := C.ys (by omega); omega)
        · have e2 : cpS sx ax sy = [] := by unfold cpS; rw [e1, if_neg hF]
          have e3 : cpA sx ax sy ay = [] := by unfold cpA; rw [e1, if_neg hF]
          rw [e1, e2, e3]
          by_cases a : sn = 0
          · rw [hRa a] at hI
            exact copies_may_a so ao uo bo sn sc an ac un uc bn bc sx ax sy ay w hx gx gsx hy hsy gy gsy tl hit tl4 an4 un4 a T T4 hI _ rfl hF
          · rw [hRb (by omega), show ((1 : Nat) : Int) = 1 from rfl] at hI
            by_cases b : un = 0
            · exact copies_may_b so ao uo bo sn sc an ac un uc bn bc sx ax sy ay w hx gx gsx hy hsy gy gsy tl hit tl4 an4 un4 (by omega) b T T4 hI _ rfl hF
            · exact copies_may_c so ao uo bo sn sc an ac un uc bn bc sx ax sy ay w hx gx gsx hy hsy gy gsy tl hit tl4 an4 un4 (by omega) (by omega) (by rcases hl with h | h | h <;> omega) T T4 hI _ rfl hF

/-- The places 0, 1, 2 .. -/
def rgL (n : Nat) : List Int := (List.range n).map (fun i : Nat => (i : Int))
theorem blw_rg (n : Nat) : blw (n : Int) [0] = rgL n := by
  unfold blw rgL
  simp only [List.flatMap_cons, List.flatMap_nil, List.append_nil, Int.natAbs_natCast]
  apply List.map_congr_left
  intro i hi
  unfold blI
  rw [if_neg (by omega), Int.zero_mul, Int.zero_add]
theorem rgL_len (n : Nat) : (rgL n).length = n := by simp [rgL]
theorem mayF_one {n : Nat} (h : n ≤ 4096) : mayF [(n : Int)] = 0 := by
  refine mayF_ok (fun k hk => ?_) (by simp) ?_
  · simp at hk; subst hk; show (0 : Int) ≤ (n : Int); omega
  · unfold pz; simp; split <;> omega
theorem mayA_list {n : Nat} {zs : List Int} (h : n ≤ 4096) (hl : zs.length = n) : mayA [(n : Int)] zs = 0 := by
  unfold mayA
  rw [mayF_one h]
  simp [pr, hl]
set_option maxHeartbeats 4000000 in
set_option maxRecDepth 20000 in
theorem where_any (so ao : Option Addr) (sn sc an ac : Nat) (sy ay : List Int) (w : World) (hy : Rd w so sn sy) (gy : Rd w ao an ay) (gs : Sl ao an ac) (my : mayA sy ay = 0) :
    Calls Tryz.prog 144 #[.agg #[.slice so sn sc, .slice ao an ac]] w fun e w' => AnsZ w (fun S A => S = cpS sy ay [(an : Int)] ∧ A = cpA sy ay [(an : Int)] (rgL an)) (cpE sy ay [(an : Int)]) e w' := by
  have U0 := un_startZ w so sn sc ao an ac
  have s0 := U0.sz
  have an4 : an ≤ 4096 := by rw [← gy.len]; exact atoms_le my
  obtain ⟨x0, x1, _, _⟩ := box2 U0.x
  have al : ∀ V, UnZ w V so sn sc ao an ac → V.cell? ⟨w.heap.size, 0, none⟩ = some (.slice so sn sc) ∧ V.cell? ⟨w.heap.size, 1, none⟩ = some (.slice ao an ac) := fun V D => ⟨(box2 D.x).1, (box2 D.x).2.1⟩
  have DD : ∀ V, UnZ w V so sn sc ao an ac → UnZ w V.drew so sn sc ao an ac := fun V D => D.below (B := V.heap.size) (Below.refl _ _).drew D.sz
  have cB : ∀ V a, Rd V (some a) 1 [0] → Calls Tryz.prog 192 #[.slice (some a) 1 1, .int .i64 (an : Nat)] V fun e w' => ∃ oo oc, e = .returned (.slice oo an oc) ∧ Rd w' oo an (rgL an) ∧ Sl oo an oc ∧ Below V.heap.size V w' := fun V a h => by
    have := belowZ_any (some a) 1 1 (an : Int) [0] V h (by omega) (by omega) (by simpa using an4) (by simp) (by omega)
    rw [blw_rg, Int.natAbs_natCast, Nat.one_mul] at this
    refine this.mono ?_
    rintro e w' ⟨oo, oc, he, f, b⟩
    exact ⟨oo, oc, he, f.rd, f.sl, b⟩
  have cC : ∀ V, UnZ w V so sn sc ao an ac → ∀ a oo oc, Rd V (some a) 1 [(an : Int)] → Rd V oo an (rgL an) → Sl oo an oc → Calls Tryz.prog 145 #[.agg #[.slice so sn sc, .slice ao an ac], .agg #[.slice (some a) 1 1, .slice oo an oc]] V fun e w' => AnsZ V (fun S A => S = cpS sy ay [(an : Int)] ∧ A = cpA sy ay [(an : Int)] (rgL an)) (cpE sy ay [(an : Int)]) e w' := fun V D a oo oc h1 h2 h3 =>
    copies_any so ao (some a) oo sn sc an ac 1 1 an oc sy ay [(an : Int)] (rgL an) V (hy.below D.bel (Nat.le_refl _)) (gy.below D.bel (Nat.le_refl _)) gs h1 ⟨fun e => (by cases e), by omega, by omega⟩ h2 h3 my (mayA_list an4 (rgL_len an))
  have N1 : ∀ V : World, Rd (V.alloc (.cells #[.int .i64 (an : Nat)] 3)) (some ⟨V.heap.size, 0, none⟩) 1 [(an : Int)] := fun V => (ft_new 3 V [(an : Int)] (by simp) (num1 (by omega) (by omega))).rd
  have N0 : ∀ V : World, Rd (V.alloc (.cells #[.int .i64 0] 2)) (some ⟨V.heap.size, 0, none⟩) 1 [0] := fun V => (ft_new 2 V [0] (by simp) (by decide)).rd
  generalize cpS sy ay [(an : Int)] = CS at *
  generalize cpA sy ay [(an : Int)] (rgL an) = CA at *
  generalize cpE sy ay [(an : Int)] = CE at *
  generalize rgL an = RG at *
  go_enter Tryz.func144, Tryz.ntmps144
  go_wp2
  generalize (w.alloc (.cells #[.slice so sn sc, .slice ao an ac] 36)).alloc (.cells #[.slice none 0 0, .slice none 0 0] 36) = U at *
  have ld : ∀ {V : World} {o : Option Addr} {n : Nat} {zs : List Int}, Rd V o n zs → Rd V.drew o n zs := fun h => h.below (Below.refl _ _).drew (Nat.le_refl _)
  -- the three orders
  have a1 := DD _ ((U0.below (box_below U (.cells #[.int .i64 (an : Nat)] 3)) s0).below (box_below _ (.cells #[.int .i64 0] 2)) (by simp; omega))
  have a2 := DD _ ((U0.below (box_below U (.cells #[.int .i64 0] 2)) s0).below (box_below _ (.cells #[.int .i64 (an : Nat)] 3)) (by simp; omega))
  have a3 := DD _ (U0.below (box_below U (.cells #[.int .i64 0] 2)) s0)
  have a4 := DD _ U0
  have z1 := ld (N0 (U.alloc (.cells #[.int .i64 (an : Nat)] 3)))
  have n1 := ld ((N1 U).below (box_below _ (.cells #[.int .i64 0] 2)) (Nat.le_refl _))
  have z2 := ld ((N0 U).below (box_below _ (.cells #[.int .i64 (an : Nat)] 3)) (Nat.le_refl _))
  have n2 := ld (N1 (U.alloc (.cells #[.int .i64 0] 2)))
  have z3 := ld (N0 U)
  simp only [World.size_alloc] at z1 n2
  have c1 := cB _ _ z1
  have c2 := cB _ _ z2
  have c3 := cB _ _ z3
  have a5 := DD _ (U0.below (box_below U (.cells #[.int .i64 (an : Nat)] 3)) s0)
  go_region_held3 (fun V => V.cell? ⟨w.heap.size, 0, none⟩ = some (.slice so sn sc) ∧ V.cell? ⟨w.heap.size, 1, none⟩ = some (.slice ao an ac)) (first | exact al _ a4 | exact al _ a1 | exact al _ a2 | exact al _ a3 | exact al _ a5 | exact al _ D6 | exact al _ D7 | exact al _ D8 | exact S9)
    (first
      | (go_at_call 192; (with_reducible refine c1.mono ?_); rintro e w6 ⟨o6, c6, rfl, r6, l6, k6⟩; have D6 := a1.below k6 a1.sz; have m6 := n1.below k6 (Nat.le_refl _); have D7 := D6; have m7 := m6; have r7 := r6)
      | (go_at_call 192; (with_reducible refine c2.mono ?_); rintro e w6 ⟨o6, c6, rfl, r6, l6, k6⟩; have D6 := a2.below k6 a2.sz; have m6 := n2.below k6 (Nat.le_refl _); have D7 := D6; have m7 := m6; have r7 := r6)
      | (go_at_call 192; (with_reducible refine c3.mono ?_); rintro e w6 ⟨o6, c6, rfl, r6, l6, k6⟩; have D6 := a3.below k6 a3.sz; have k7 := box_below w6 (.cells #[.int .i64 (an : Nat)] 3); have D7 := D6.below k7 D6.sz; have m7 := N1 w6; have r7 := r6.below k7 (Nat.le_refl _))
      | (go_at_call 145; (with_reducible refine (cC _ D7 _ _ _ m7 r7 l6).mono ?_); rintro e w8 ⟨o1, n1', c1', o2, n2', c2', S8, A8, rfl, f1, f2, hΦ, k8⟩; have s7 := D7.sz; have D8 := D7.below k8 s7; obtain ⟨q0, q1, q2, q3⟩ := box2 D8.r; have kk := set2 w8 (w.heap.size + 1) 0 1 (.slice o1 n1' c1') (.slice o2 n2' c2'); have xx := box2 ((kk.block w.heap.size (by have := D8.sz; omega) (fun e => by injection e with e; omega)).trans D8.x); have S9 : _ ∧ _ := ⟨xx.1, xx.2.1⟩))
  all_goals
    go_wp2
    (try simp only [Exit.inBlock, Exit.then])
    refine bodyPost_ret (v := .tuple #[.agg #[.slice o1 n1' c1', .slice o2 n2' c2'], .int .i64 CE]) (by rw [results_cell_tmp rfl]; go_simp) rfl ?_
    exact ⟨_, _, _, _, _, _, _, _, rfl, (ft_setZ f1 (by omega) _ _).mono (by omega), (ft_setZ f2 (by omega) _ _).mono (by omega), hΦ, below_set2 _ _ _ _ D8.bel (by omega) (Nat.le_refl _)⟩
end Go.Proofs.YtelcagfaflpolaaGreat
