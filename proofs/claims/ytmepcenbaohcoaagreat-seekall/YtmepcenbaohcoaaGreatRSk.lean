
/- The document's answers for package seek: from, sorted. -/

import Derived.Test.YtmepcenbaohcoaaGreatRSj

import Derived.Test.YtmepcenbaohcoaaGreatRSf

import Derived.Deep.DeepCutAuto

namespace Go.Proofs.YtmepcenbaohcoaaGreat

open Go.RowKit

set_option linter.unusedVariables false

theorem AnsQ.two {w V : World} {r : Nat} {E : Int} {xo o : Option Addr} {sn xc k c B1 B2 : Nat} {S A : List Int} {cs : Array Value} (f1 : Ft 3 V B1 xo sn xc S) (f2 : Ft 2 V B2 o k c A) (h1 : w.heap.size ≤ B1) (h2 : w.heap.size ≤ B2) (hr : V.heap[r]? = some (.cells cs 30 (0, 0))) (hw : w.heap.size ≤ r) (b : Below w.heap.size w V) :
    AnsQ w (fun S' A' => S' = S ∧ A' = A) E (.returned (.tuple #[.agg #[.slice xo sn xc, .slice o k c], .int .i64 E])) ((V.setCell ⟨r, 0, none⟩ (.slice xo sn xc)).setCell ⟨r, 1, none⟩ (.slice o k c)) := by
  have e := ends2 (w := w) (.slice xo sn xc) (.slice o k c) f1 f2 h1 h2 hr hw b
  exact ⟨xo, sn, xc, o, k, c, S, A, rfl, e.1, e.2.1, ⟨rfl, rfl⟩, e.2.2⟩
theorem AnsQ.nil {w V : World} {r : Nat} {E : Int} (hw : w.heap.size ≤ r) (b : Below w.heap.size w V) :
    AnsQ w (fun S' A' => S' = [] ∧ A' = []) E (.returned (.tuple #[.agg #[.slice none 0 0, .slice none 0 0], .int .i64 E])) ((V.setCell ⟨r, 0, none⟩ (.slice none 0 0)).setCell ⟨r, 1, none⟩ (.slice none 0 0)) :=
  ⟨none, 0, 0, none, 0, 0, [], [], rfl, Ft.nil _ _ _, Ft.nil _ _ _, ⟨rfl, rfl⟩, below_set2 _ _ _ _ b hw (Nat.le_refl _)⟩
theorem refItmN (so ao : Option Addr) (sn sc an ac : Nat) (s a : List Int) (w : World) (h : Rd w so sn s) (g : Rd w ao an a) (my : mayA s a = 0) :
    Calls Tryz.prog 33 #[.agg #[.slice so sn sc, .slice ao an ac]] w fun e w' => e = .returned (.int .i64 ((itN s : Nat) : Int)) ∧ Below w.heap.size w w' := by
  have r := refItems_any so ao sn sc an ac s a w h g
  rw [show itm s a = tal s from if_pos my, ← itN_tal (mayA_zero my).1] at r
  exact r
set_option maxHeartbeats 2000000 in
theorem refFrom7_bad (so ao uo bo : Option Addr) (sn sc an ac tn tc bn bc : Nat) (w : World) (hn : 0 < sn) :
    Calls Tryz.prog 31 #[.agg #[.slice so sn sc, .slice ao an ac], .agg #[.slice uo tn tc, .slice bo bn bc]] w fun e w' => AnsQ w (fun S A => S = [] ∧ A = []) 12 e w' := by
  have D0 := du_startQ w so sn sc ao an ac uo tn tc bo bn bc
  obtain ⟨q0, q1, _, _⟩ := box2 D0.x
  obtain ⟨r0, r1, r2, r3⟩ := box2 D0.r
  have t1 : ((sn : Int) != 0) = true := by simp; omega
  have t2 : ((sn : Int) == 0) = false := by simp; omega
  go_enter Tryz.func31, Tryz.ntmps31
  go_wp2
  (try simp only [Exit.inBlock, Exit.then])
  go_returns
  first
    | exact AnsQ.nil (by omega) D0.bel
    | exact ⟨none, 0, 0, none, 0, 0, [], [], rfl, Ft.nil _ _ _, Ft.nil _ _ _, ⟨rfl, rfl⟩, by first | exact D0.bel | exact below_set2 _ _ _ _ D0.bel (by omega) (Nat.le_refl _)⟩
set_option maxHeartbeats 4000000 in
theorem refFrom7_ok (so ao uo bo : Option Addr) (sc an ac tn tc bn bc : Nat) (a t b : List Int) (v : Int) (w : World) (ha : Rd w ao an a) (han : 0 < an) (hv : nth a 0 = v) (ht : Rd w uo tn t) (st : Sl uo tn tc) (hb : Rd w bo bn b) (sb : Sl bo bn bc) (my : mayA t b = 0) :
    Calls Tryz.prog 31 #[.agg #[.slice so 0 sc, .slice ao an ac], .agg #[.slice uo tn tc, .slice bo bn bc]] w fun e w' => AnsQ w (fun S A => S = itmS t b v ∧ A = itmA t b v) (itmE t b v) e w' := by
  have D0 := du_startQ w so 0 sc ao an ac uo tn tc bo bn bc
  have hf := (mayA_zero my).1
  have htl := itN_tal hf
  have tb := tal_bd hf
  have cI := refItmN uo bo tn tc bn bc t b _ (ht.below D0.bel (Nat.le_refl _)) (hb.below D0.bel (Nat.le_refl _)) my
  obtain ⟨z, hz⟩ : ∃ z, itmZ t b = z := ⟨_, rfl⟩
  have HA : Hid (∀ V (j : Nat), Below w.heap.size w V → j < itN t → _) := fun V j k hj => refAt_any3 uo bo tn tc bn bc t b V (ht.below k (Nat.le_refl _)) st (hb.below k (Nat.le_refl _)) sb my htl.symm hz j hj
  have eE : itmE t b v = if v < -tal t ∨ tal t ≤ v then 13 else 0 := by unfold itmE; rw [if_neg (by simpa using my)]
  have HD : Hid (DuQ w _ so 0 sc ao an ac uo tn tc bo bn bc) := D0
  obtain ⟨bb, off, rfl, hb1, hc⟩ := (ha.below D0.bel (Nat.le_refl _)).cells han
  have c0 := hc 0 han
  rw [hv, Nat.add_zero] at c0
  have bd := ha.num 0 han
  rw [hv] at bd
  obtain ⟨q0, q1, _, _⟩ := box2 D0.x
  obtain ⟨p0, p1, _, _⟩ := box2 D0.y
  obtain ⟨r0, r1, r2, r3⟩ := box2 D0.r
  have hS : itmS t b v = if itmE t b v = 0 then t.drop 1 else [] := rfl
  have hA : itmA t b v = if itmE t b v = 0 then (b.drop (itmJ t v * z)).take z else [] := by rw [← hz]; rfl
  have hJ : itmJ t v = (if v < 0 then v + tal t else v).toNat := rfl
  rw [← htl] at eE hJ tb
  have HN : Hid (DuQ w _ so 0 sc (some ⟨bb, off, none⟩) an ac uo tn tc bo bn bc) := D0
  have szD := D0.sz
  have ab : (0 : Int) < (an : Int) := by omega
  clear hc ha han ht hb my hf htl hz HD
  generalize itN t = N at *
  have wn : IntKind.i64.wrap (-(N : Int)) = -(N : Int) := wrapIn _ (by omega)
  have bD := D0.bel
  by_cases c1 : v < -(N : Int)
  · have e13 : itmE t b v = 13 := by rw [eE, if_pos (.inl c1)]
    rw [hS, hA, e13, if_neg (by decide), if_neg (by decide)]
    have t1 : decide (v < -(N : Int)) = true := by simpa using c1
    clear hS hA hJ eE e13
    go_enter Tryz.func31, Tryz.ntmps31
    go_wp2_with (first
      | (go_at_call 33; (with_reducible refine cI.mono ?_); rintro e V1 ⟨rfl, k1⟩; have D1 := HN.out.below k1 szD; have d0 := (k1.cell (p := ⟨bb, off, none⟩) hb1).trans c0; clear q0 q1 p0 p1 r0 r1 r2 r3 c0; obtain ⟨q0, q1, _, _⟩ := box2 D1.x; obtain ⟨r0, r1, r2, r3⟩ := box2 D1.r))
    (try simp only [Exit.inBlock, Exit.then])
    refine bodyPost_ret (v := .tuple #[.agg #[.slice none 0 0, .slice none 0 0], .int .i64 13]) (by rw [results_cell_tmp rfl]; go_simp) rfl ?_
    exact AnsQ.nil (by omega) D1.bel
  · have t1 : decide (v < -(N : Int)) = false := by simpa using c1
    by_cases c2 : (N : Int) ≤ v
    · have e13 : itmE t b v = 13 := by rw [eE, if_pos (.inr c2)]
      rw [hS, hA, e13, if_neg (by decide), if_neg (by decide)]
      have t2 : decide ((N : Int) ≤ v) = true := by simpa using c2
      clear hS hA hJ eE e13
      go_enter Tryz.func31, Tryz.ntmps31
      go_wp2_with (first
        | (go_at_call 33; (with_reducible refine cI.mono ?_); rintro e V1 ⟨rfl, k1⟩; have D1 := HN.out.below k1 szD; have d0 := (k1.cell (p := ⟨bb, off, none⟩) hb1).trans c0; clear q0 q1 p0 p1 r0 r1 r2 r3 c0; obtain ⟨q0, q1, _, _⟩ := box2 D1.x; obtain ⟨r0, r1, r2, r3⟩ := box2 D1.r))
      (try simp only [Exit.inBlock, Exit.then])
      refine bodyPost_ret (v := .tuple #[.agg #[.slice none 0 0, .slice none 0 0], .int .i64 13]) (by rw [results_cell_tmp rfl]; go_simp) rfl ?_
      exact AnsQ.nil (by omega) D1.bel
    · have e0 : itmE t b v = 0 := by rw [eE, if_neg (by omega)]
      have t2 : decide ((N : Int) ≤ v) = false := by simpa using c2
      rw [hS, hA, e0, if_pos rfl, if_pos rfl, hJ]
      clear hS hA hJ eE e0
      by_cases c3 : v < 0
      · rw [if_pos c3]
        obtain ⟨j, hj⟩ : ∃ j : Nat, v + (N : Int) = (j : Int) := ⟨(v + N).toNat, by omega⟩
        rw [hj, Int.toNat_natCast]
        have t3 : decide (v < 0) = true := by simpa using c3
        have wj : IntKind.i64.wrap (j : Int) = (j : Int) := wrapIn _ (by omega)
        have hjN : j < N := by omega
        have HJ : Hid (v + (N : Int) = (j : Int)) := hj
        go_enter Tryz.func31, Tryz.ntmps31
        go_wp2_with (first
          | (go_at_call 33; (with_reducible refine cI.mono ?_); rintro e V1 ⟨rfl, k1⟩; have D1 := HN.out.below k1 szD; have d0 := (k1.cell (p := ⟨bb, off, none⟩) hb1).trans c0; clear q0 q1 p0 p1 r0 r1 r2 r3 c0; obtain ⟨q0, q1, _, _⟩ := box2 D1.x; obtain ⟨p0, p1, _, _⟩ := box2 D1.y; have cA := HA.out V1 j D1.bel hjN)
          | (go_at_call 51; (with_reducible refine cA.mono ?_); rintro e V2 ⟨o1, c1', o2, c2', rfl, f1, f2, k2⟩; have D2 := D1.below k2 D1.sz; obtain ⟨r0, r1, r2, r3⟩ := box2 D2.r))
        (try simp only [Exit.inBlock, Exit.then])
        refine bodyPost_ret (v := .tuple #[.agg #[.slice o1 (tn - 1) c1', .slice o2 z c2'], .int .i64 0]) (by rw [results_cell_tmp rfl]; go_simp) rfl ?_
        exact AnsQ.two f1 f2 D1.bel.size D1.bel.size D2.r (by omega) D2.bel
      · rw [if_neg c3]
        obtain ⟨j, hj⟩ : ∃ j : Nat, v = (j : Int) := ⟨v.toNat, by omega⟩
        subst hj
        rw [Int.toNat_natCast]
        have t3 : decide ((j : Int) < 0) = false := by simp
        have hjN : j < N := by omega
        go_enter Tryz.func31, Tryz.ntmps31
        go_wp2_with (first
          | (go_at_call 33; (with_reducible refine cI.mono ?_); rintro e V1 ⟨rfl, k1⟩; have D1 := HN.out.below k1 szD; have d0 := (k1.cell (p := ⟨bb, off, none⟩) hb1).trans c0; clear q0 q1 p0 p1 r0 r1 r2 r3 c0; obtain ⟨q0, q1, _, _⟩ := box2 D1.x; obtain ⟨p0, p1, _, _⟩ := box2 D1.y; have cA := HA.out V1 j D1.bel hjN)
          | (go_at_call 51; (with_reducible refine cA.mono ?_); rintro e V2 ⟨o1, c1', o2, c2', rfl, f1, f2, k2⟩; have D2 := D1.below k2 D1.sz; obtain ⟨r0, r1, r2, r3⟩ := box2 D2.r))
        (try simp only [Exit.inBlock, Exit.then])
        refine bodyPost_ret (v := .tuple #[.agg #[.slice o1 (tn - 1) c1', .slice o2 z c2'], .int .i64 0]) (by rw [results_cell_tmp rfl]; go_simp) rfl ?_
        exact AnsQ.two f1 f2 D1.bel.size D1.bel.size D2.r (by omega) D2.bel

theorem cmpL_bdS : ∀ a b : List Int, -1 ≤ cmpL a b ∧ cmpL a b ≤ 1
  | [], [] => by simp [cmpL]
  | [], _ :: _ => by simp [cmpL]
  | _ :: _, [] => by simp [cmpL]
  | x :: a, y :: b => by
    have h1 := cmpI_bd x y
    have h2 := cmpL_bdS a b
    simp only [cmpL]
    first
      | (unfold lex; split <;> omega)
      | (split <;> omega)
theorem cmpA_bd (s a t b : List Int) : -1 ≤ cmpA s a t b ∧ cmpA s a t b ≤ 1 := by
  have h1 := cmpI_bd s.length t.length
  have h2 := cmpL_bdS s t
  have h3 := cmpL_bdS a b
  unfold cmpA lex
  split
  · split <;> omega
  · omega
theorem way_up (xs : Nat → List Int × List Int) (p q : Nat) : IntKind.i64.wrap (1 * cmpA (xs p).1 (xs p).2 (xs q).1 (xs q).2) = cUp xs (p : Int) (q : Int) := by
  rw [Int.one_mul]
  show _ = cmpA _ _ _ _
  rw [Int.toNat_natCast, Int.toNat_natCast]
  have := cmpA_bd (xs p).1 (xs p).2 (xs q).1 (xs q).2
  exact wrapIn _ (by omega)
theorem way_dn (xs : Nat → List Int × List Int) (p q : Nat) : IntKind.i64.wrap ((-1) * cmpA (xs p).1 (xs p).2 (xs q).1 (xs q).2) = cDn xs (p : Int) (q : Int) := by
  show _ = cmpA _ _ _ _
  rw [Int.toNat_natCast, Int.toNat_natCast, cmpA_anti (xs p).1 (xs p).2 (xs q).1 (xs q).2]
  have := cmpA_bd (xs p).1 (xs p).2 (xs q).1 (xs q).2
  rw [Int.neg_mul, Int.one_mul]
  exact wrapIn _ (by omega)

set_option maxHeartbeats 8000000 in
set_option maxRecDepth 20000 in
theorem refSorted7_37 (so ao uo bo : Option Addr) (sn sc an ac tn tc bn bc : Nat) (s a t b : List Int) (w : World) (hs : Rd w so sn s) (ss : Sl so sn sc) (ha : Rd w ao an a) (sa : Sl ao an ac) (mx : mayA s a = 0) (ht : Rd w uo tn t) (st : Sl uo tn tc) (hb : Rd w bo bn b) (sb : Sl bo bn bc) (my : mayA t b = 0) :
    Calls Tryz.prog 34 #[.int .i64 37, .agg #[.slice so sn sc, .slice ao an ac], .agg #[.slice uo tn tc, .slice bo bn bc]] w fun e w' => (tal s = tal t → AnsQ w (fun S A => ∃ ps, Pls (cUp (itX t b)) (itN t) ps ∧ S = (itN t : Int) :: s.drop 1 ∧ A = chA (itX s a) ps (itN t)) 0 e w') ∧ (¬ tal s = tal t → AnsQ w (fun S A => S = [] ∧ A = []) 11 e w') := by
  have D0 := du_startQ w so sn sc ao an ac uo tn tc bo bn bc
  have sz0 := D0.sz
  have e1 := itN_tal (mayA_zero mx).1
  have e2 := itN_tal (mayA_zero my).1
  have b1 := tal_bd (mayA_zero mx).1
  have b2 := tal_bd (mayA_zero my).1
  have hnx : itN s ≤ 4096 := by omega
  have hny : itN t ≤ 4096 := by omega
  rw [← e1, ← e2]
  have HI1 : Hid (∀ V, Below w.heap.size w V → Calls Tryz.prog 33 #[.agg #[.slice so sn sc, .slice ao an ac]] V fun e w' => e = .returned (.int .i64 ((itN s : Nat) : Int)) ∧ Below V.heap.size V w') := fun V k => refItmN so ao sn sc an ac s a V (hs.below k (Nat.le_refl _)) (ha.below k (Nat.le_refl _)) mx
  have HI2 : Hid (∀ V, Below w.heap.size w V → Calls Tryz.prog 33 #[.agg #[.slice uo tn tc, .slice bo bn bc]] V fun e w' => e = .returned (.int .i64 ((itN t : Nat) : Int)) ∧ Below V.heap.size V w') := fun V k => refItmN uo bo tn tc bn bc t b V (ht.below k (Nat.le_refl _)) (hb.below k (Nat.le_refl _)) my
  have HL : Hid (∀ V, Below w.heap.size w V → Calls Tryz.prog 23 #[.agg #[.slice uo tn tc, .slice bo bn bc]] V fun e w' => ∃ go gc, e = .returned (.slice go (itN t) gc) ∧ Gv w' V.heap.size go (itN t) gc (itX t b) ∧ Below V.heap.size V w') := fun V k => refItems7_any uo bo tn tc bn bc t b V (ht.below k (Nat.le_refl _)) st (hb.below k (Nat.le_refl _)) sb my
  have HG : Hid (∀ V po pc (ps : List Int), Below w.heap.size w V → Rd V po (itN t) ps → inN (itN s) ps → Calls Tryz.prog 24 #[.agg #[.slice so sn sc, .slice ao an ac], .slice po (itN t) pc] V fun e w' => ∃ o1 n1 c1 o2 n2 c2, e = .returned (.agg #[.slice o1 n1 c1, .slice o2 n2 c2]) ∧ Ft 3 w' V.heap.size o1 n1 c1 ((itN t : Int) :: s.drop 1) ∧ Ft 2 w' V.heap.size o2 n2 c2 (chA (itX s a) ps (itN t)) ∧ Below V.heap.size V w') := fun V po pc ps k hr hi => refGathered7 so ao sn sc an ac s a po (itN t) pc ps V (hs.below k (Nat.le_refl _)) ss (ha.below k (Nat.le_refl _)) sa mx hr hi (by omega)
  have HO : Hid (∀ V lo lc, AsQ V lo (itN t) (itX t b) → Calls Tryz.prog 30 #[.slice lo (itN t) lc, .int .i64 (1)] V fun e w' => ∃ o cc ps, e = .returned (.slice o (itN t) cc) ∧ Pls (cUp (itX t b)) (itN t) ps ∧ Ft 3 w' V.heap.size o (itN t) cc ps ∧ Below V.heap.size V w') := fun V lo lc h => refOrder7 lo (itN t) lc (itX t b) (1) (cUp (itX t b)) V (fun N => cUp3 N _) (way_up _) h (by omega)
  clear e1 e2 b1 b2 hs ha ht hb mx my ss sa st sb
  generalize itX s a = xs at *
  generalize itX t b = zs at *
  generalize s.drop 1 = ds at *
  generalize itN s = n at *
  generalize itN t = m at *
  have HD : Hid (∀ V, Below w.heap.size w V → True) := fun _ _ => trivial
  obtain ⟨W, hW⟩ : ∃ W, W = ((w.alloc (.cells #[.slice so sn sc, .slice ao an ac] 30)).alloc (.cells #[.slice uo tn tc, .slice bo bn bc] 30)).alloc (.cells #[.slice none 0 0, .slice none 0 0] 30) := ⟨_, rfl⟩
  rw [← hW] at D0 sz0
  have HW : Hid (((w.alloc (.cells #[.slice so sn sc, .slice ao an ac] 30)).alloc (.cells #[.slice uo tn tc, .slice bo bn bc] 30)).alloc (.cells #[.slice none 0 0, .slice none 0 0] 30) = W) := hW.symm
  clear hW HD
  have AL : ∀ V, Below W.heap.size W V → V.cell? ⟨w.heap.size, 0, none⟩ = some (.slice so sn sc) ∧ V.cell? ⟨w.heap.size, 1, none⟩ = some (.slice ao an ac) ∧ V.cell? ⟨w.heap.size + 1, 0, none⟩ = some (.slice uo tn tc) ∧ V.cell? ⟨w.heap.size + 1, 1, none⟩ = some (.slice bo bn bc) ∧ Below W.heap.size W V := fun V kk => by
    have D := D0.below kk sz0
    obtain ⟨a0, a1, _, _⟩ := box2 D.x
    obtain ⟨c0, c1, _, _⟩ := box2 D.y
    exact ⟨a0, a1, c0, c1, kk⟩
  have HAL : Hid (∀ V, Below W.heap.size W V → V.cell? ⟨w.heap.size, 0, none⟩ = some (.slice so sn sc) ∧ V.cell? ⟨w.heap.size, 1, none⟩ = some (.slice ao an ac) ∧ V.cell? ⟨w.heap.size + 1, 0, none⟩ = some (.slice uo tn tc) ∧ V.cell? ⟨w.heap.size + 1, 1, none⟩ = some (.slice bo bn bc) ∧ Below W.heap.size W V) := AL
  have bD := D0.bel
  have c1 : ∀ V, Below W.heap.size W V → Calls Tryz.prog 33 #[.agg #[.slice so sn sc, .slice ao an ac]] V fun e w' => e = .returned (.int .i64 (n : Int)) ∧ Below W.heap.size W w' := fun V kk => (HI1.out V (bD.trans (kk.mono bD.size))).mono fun e w' h => ⟨h.1, kk.trans (h.2.mono kk.size)⟩
  have c2 : ∀ V, Below W.heap.size W V → Calls Tryz.prog 33 #[.agg #[.slice uo tn tc, .slice bo bn bc]] V fun e w' => e = .returned (.int .i64 (m : Int)) ∧ Below W.heap.size W w' := fun V kk => (HI2.out V (bD.trans (kk.mono bD.size))).mono fun e w' h => ⟨h.1, kk.trans (h.2.mono kk.size)⟩
  have HDD : Hid (DuQ w W so sn sc ao an ac uo tn tc bo bn bc) := D0
  have HSZ : Hid (w.heap.size + 3 ≤ W.heap.size) := sz0
  have B0 : Below W.heap.size W W := Below.refl _ _
  clear D0 sz0
  by_cases hnm : n = m
  · subst hnm
    have t1 : ((n : Int) != (n : Int)) = false := by simp
    have t1' : ((n : Int) == (n : Int)) = true := by simp
    go_enter Tryz.func34, Tryz.ntmps34
    go_wp2
    rw [HW.out]
    go_region_held3 (fun V => V.cell? ⟨w.heap.size, 0, none⟩ = some (.slice so sn sc) ∧ V.cell? ⟨w.heap.size, 1, none⟩ = some (.slice ao an ac) ∧ V.cell? ⟨w.heap.size + 1, 0, none⟩ = some (.slice uo tn tc) ∧ V.cell? ⟨w.heap.size + 1, 1, none⟩ = some (.slice bo bn bc) ∧ Below W.heap.size W V) (first | exact AL _ (by assumption) | exact AL _ (Below.drew (by assumption)))
      (first
        | (go_at_call 33; (with_reducible refine (c1 _ (‹_ ∧ _ ∧ _ ∧ _ ∧ Below W.heap.size W _›).2.2.2.2).mono ?_); rintro e V1 ⟨rfl, k1⟩)
        | (go_at_call 33; (with_reducible refine (c2 _ (‹_ ∧ _ ∧ _ ∧ _ ∧ Below W.heap.size W _›).2.2.2.2).mono ?_); rintro e V2 ⟨rfl, k2⟩))
    clear c1 c2 AL B0
    have D2 := HDD.out.below k2 HSZ.out
    have sz2 := D2.sz
    have bD2 := D2.bel
    have AL2 : ∀ V, Below V2.heap.size V2 V → V.cell? ⟨w.heap.size, 0, none⟩ = some (.slice so sn sc) ∧ V.cell? ⟨w.heap.size, 1, none⟩ = some (.slice ao an ac) ∧ V.cell? ⟨w.heap.size + 1, 0, none⟩ = some (.slice uo tn tc) ∧ V.cell? ⟨w.heap.size + 1, 1, none⟩ = some (.slice bo bn bc) ∧ Below V2.heap.size V2 V := fun V kk => by
      obtain ⟨z0, z1, z2, z3, _⟩ := HAL.out V (k2.trans (kk.mono k2.size))
      exact ⟨z0, z1, z2, z3, kk⟩
    have cL : ∀ V, Below V2.heap.size V2 V → Calls Tryz.prog 23 #[.agg #[.slice uo tn tc, .slice bo bn bc]] V fun e w' => ∃ go gc, e = .returned (.slice go n gc) ∧ AsQ w' go n zs ∧ Below V2.heap.size V2 w' ∧ Below V.heap.size V w' := fun V kk => (HL.out V (bD2.trans (kk.mono bD2.size))).mono fun e w' ⟨go, gc, h1, h2, h3⟩ => ⟨go, gc, h1, gv_as h2 (by omega), kk.trans (h3.mono kk.size), h3⟩
    have cO : ∀ V lo lc, Below V2.heap.size V2 V → AsQ V lo n zs → Calls Tryz.prog 30 #[.slice lo n lc, .int .i64 (1)] V fun e w' => ∃ o cc ps, e = .returned (.slice o n cc) ∧ Hid (Pls (cUp zs) n ps) ∧ Rd w' o n ps ∧ Below V2.heap.size V2 w' ∧ Below V.heap.size V w' := fun V lo lc kk h => (HO.out V lo lc h).mono fun e w' ⟨o, cc, ps, h1, h2, h3, h4⟩ => ⟨o, cc, ps, h1, h2, h3.rd, kk.trans (h4.mono kk.size), h4⟩
    have cG : ∀ V po pc (ps : List Int), Below V2.heap.size V2 V → Hid (Pls (cUp zs) n ps) → Rd V po n ps → Calls Tryz.prog 24 #[.agg #[.slice so sn sc, .slice ao an ac], .slice po n pc] V fun e w' => ∃ o1 n1 c1 o2 n2 c2, e = .returned (.agg #[.slice o1 n1 c1, .slice o2 n2 c2]) ∧ Ft 3 w' V2.heap.size o1 n1 c1 ((n : Int) :: ds) ∧ Ft 2 w' V2.heap.size o2 n2 c2 (chA xs ps n) ∧ Below V2.heap.size V2 w' ∧ Below V.heap.size V w' := fun V po pc ps kk hP hr => (HG.out V po pc ps (bD2.trans (kk.mono bD2.size)) hr hP.out.inn).mono fun e w' ⟨o1, n1, c1, o2, n2, c2, h1, h2, h3, h4⟩ => ⟨o1, n1, c1, o2, n2, c2, h1, h2.mono kk.size, h3.mono kk.size, kk.trans (h4.mono kk.size), h4⟩
    have HRR : Hid (V2.heap[w.heap.size + 1 + 1]? = some (.cells #[.slice none 0 0, .slice none 0 0] 30 (0, 0))) := D2.r
    have HR3 : w.heap.size + 1 + 1 < V2.heap.size := by omega
    have B2 : Below V2.heap.size V2 V2 := Below.refl _ _
    have HBD : Hid (Below w.heap.size w V2) := bD2
    clear D2 sz2 bD2 k1 k2
    go_wp2
    go_cut [9] (fun q V => ∃ qb o1 n1 c1 o2 n2 c2 ps, q = .pointer (some ⟨qb, 0, none⟩) ∧ (V.cell? ⟨qb, 0, none⟩ = some (.slice o1 n1 c1) ∧ V.cell? ⟨qb, 1, none⟩ = some (.slice o2 n2 c2)) ∧ Hid (Pls (cUp zs) n ps) ∧ Ft 3 V V2.heap.size o1 n1 c1 ((n : Int) :: ds) ∧ Ft 2 V V2.heap.size o2 n2 c2 (chA xs ps n) ∧ Below V2.heap.size V2 V)
    case first =>
      go_region_held3 (fun V => V.cell? ⟨w.heap.size, 0, none⟩ = some (.slice so sn sc) ∧ V.cell? ⟨w.heap.size, 1, none⟩ = some (.slice ao an ac) ∧ V.cell? ⟨w.heap.size + 1, 0, none⟩ = some (.slice uo tn tc) ∧ V.cell? ⟨w.heap.size + 1, 1, none⟩ = some (.slice bo bn bc) ∧ Below V2.heap.size V2 V) (exact AL2 _ (by repeat (first | assumption | exact Below.refl _ _ | refine Below.drew ?_ | refine bgA _ ?_ (Nat.le_refl _) | refine bgS _ ?_ (by first | exact Nat.le_refl _ | exact k3.size | exact k4.size | exact k5.size))))
        (first
          | (go_at_call 23; (with_reducible refine (cL (V2.alloc (.cells #[.slice none 0 0, .slice none 0 0] 30)).drew (bgA _ B2 (Nat.le_refl _)).drew).mono ?_); rintro e V3 ⟨lo, lc, rfl, A3, k3, k3'⟩; have nb1 := (k3'.block V2.heap.size (show V2.heap.size < (V2.alloc (.cells #[.slice none 0 0, .slice none 0 0] 30)).heap.size by simp)).trans (allocNew V2 (.cells #[.slice none 0 0, .slice none 0 0] 30)))
          | (go_at_call 23; (with_reducible refine (cL V2.drew B2.drew).mono ?_); rintro e V3 ⟨lo, lc, rfl, A3, k3, k3'⟩)
          | (go_at_call 30; (with_reducible refine (cO V3 lo lc k3 A3).mono ?_); rintro e V4 ⟨oo, oc, ps, rfl, HP, R4, k4, k4'⟩; have nb2 := (k4'.block V2.heap.size (Array.getElem?_eq_some_iff.1 nb1).1).trans nb1)
          | (go_at_call 30; (with_reducible refine (cO (V3.alloc (.cells #[.slice none 0 0, .slice none 0 0] 30)) lo lc (bgA _ k3 (Nat.le_refl _)) (A3.below (box_below V3 _) (Nat.le_refl _))).mono ?_); rintro e V4 ⟨oo, oc, ps, rfl, HP, R4, k4, k4'⟩; have nb2 := (k4'.block V3.heap.size (by simp)).trans (allocNew V3 (.cells #[.slice none 0 0, .slice none 0 0] 30)))
          | (go_at_call 30; (with_reducible refine (cO V3 lo lc k3 A3).mono ?_); rintro e V4 ⟨oo, oc, ps, rfl, HP, R4, k4, k4'⟩)
          | (go_at_call 24; (with_reducible refine (cG V4 oo oc ps k4 HP R4).mono ?_); rintro e V5 ⟨o1, n1, c1, o2, n2, c2, rfl, f1, f2, k5, k5'⟩; have nb3 := (k5'.block _ (Array.getElem?_eq_some_iff.1 nb2).1).trans nb2; obtain ⟨x0, x1, x2, x3⟩ := box2 nb3)
          | (go_at_call 24; (with_reducible refine (cG (V4.alloc (.cells #[.slice none 0 0, .slice none 0 0] 30)) oo oc ps (bgA _ k4 (Nat.le_refl _)) HP (R4.below (box_below V4 _) (Nat.le_refl _))).mono ?_); rintro e V5 ⟨o1, n1, c1, o2, n2, c2, rfl, f1, f2, k5, k5'⟩; have nb3 := (k5'.block V4.heap.size (by simp)).trans (allocNew V4 (.cells #[.slice none 0 0, .slice none 0 0] 30)); obtain ⟨x0, x1, x2, x3⟩ := box2 nb3)
          | (go_at_call 24; (with_reducible refine (cG V4 oo oc ps k4 HP R4).mono ?_); rintro e V5 ⟨o1, n1, c1, o2, n2, c2, rfl, f1, f2, k5, k5'⟩))
      all_goals
        go_wp2
        go_meet
        case rel =>
          first
            | (refine ⟨V2.heap.size, o1, n1, c1, o2, n2, c2, ps, rfl, ⟨?_, ?_⟩, HP, f1.kind (set2 V5 V2.heap.size _ _ _ _) nb3 (by decide), f2.kind (set2 V5 V2.heap.size _ _ _ _) nb3 (by decide), bgS _ (bgS _ k5 (Nat.le_refl _)) (Nat.le_refl _)⟩ <;> go_simp)
            | (refine ⟨V3.heap.size, o1, n1, c1, o2, n2, c2, ps, rfl, ⟨?_, ?_⟩, HP, f1.kind (set2 V5 V3.heap.size _ _ _ _) nb3 (by decide), f2.kind (set2 V5 V3.heap.size _ _ _ _) nb3 (by decide), bgS _ (bgS _ k5 k3.size) k3.size⟩ <;> go_simp)
            | (refine ⟨V4.heap.size, o1, n1, c1, o2, n2, c2, ps, rfl, ⟨?_, ?_⟩, HP, f1.kind (set2 V5 V4.heap.size _ _ _ _) nb3 (by decide), f2.kind (set2 V5 V4.heap.size _ _ _ _) nb3 (by decide), bgS _ (bgS _ k5 k4.size) k4.size⟩ <;> go_simp)
            | (refine ⟨V5.heap.size, o1, n1, c1, o2, n2, c2, ps, rfl, ⟨?_, ?_⟩, HP, f1.below (box_below V5 _) (Nat.le_refl _), f2.below (box_below V5 _) (Nat.le_refl _), bgA _ k5 (Nat.le_refl _)⟩ <;> go_simp)
    case rest =>
      obtain ⟨qb, o1, n1, c1, o2, n2, c2, ps, rfl, ⟨d0, d1⟩, HP, f1, f2, kc⟩ := hcut
      have rV := (kc.block (w.heap.size + 1 + 1) HR3).trans HRR.out
      obtain ⟨r0, r1, r2, r3⟩ := box2 rV
      go_wp2
      (try simp only [Exit.inBlock, Exit.then])
      refine bodyPost_ret (v := .tuple #[.agg #[.slice o1 n1 c1, .slice o2 n2 c2], .int .i64 0]) (by rw [results_cell_tmp rfl]; go_simp) rfl ?_
      have kw : Below w.heap.size w wc := HBD.out.trans (kc.mono HBD.out.size)
      refine ⟨fun _ => (AnsQ.two f1 f2 HBD.out.size HBD.out.size rV (by omega) kw).mono fun S A h => ⟨ps, HP.out, h.1, h.2⟩, fun h => absurd trivial h⟩
  · have t1 : ((n : Int) != (m : Int)) = true := by simp; omega
    have t1' : ((n : Int) == (m : Int)) = false := by simp; omega
    have hnm2 : ¬ (n : Int) = (m : Int) := by omega
    have HNE : Hid (¬ (n : Int) = (m : Int)) := hnm2
    clear hnm hnm2
    go_enter Tryz.func34, Tryz.ntmps34
    go_wp2
    rw [HW.out]
    go_region_held3 (fun V => V.cell? ⟨w.heap.size, 0, none⟩ = some (.slice so sn sc) ∧ V.cell? ⟨w.heap.size, 1, none⟩ = some (.slice ao an ac) ∧ V.cell? ⟨w.heap.size + 1, 0, none⟩ = some (.slice uo tn tc) ∧ V.cell? ⟨w.heap.size + 1, 1, none⟩ = some (.slice bo bn bc) ∧ Below W.heap.size W V) (first | exact AL _ (by assumption) | exact AL _ (Below.drew (by assumption)))
      (first
        | (go_at_call 33; (with_reducible refine (c1 _ (‹_ ∧ _ ∧ _ ∧ _ ∧ Below W.heap.size W _›).2.2.2.2).mono ?_); rintro e V1 ⟨rfl, k1⟩)
        | (go_at_call 33; (with_reducible refine (c2 _ (‹_ ∧ _ ∧ _ ∧ _ ∧ Below W.heap.size W _›).2.2.2.2).mono ?_); rintro e V2 ⟨rfl, k2⟩))
    have D2 := HDD.out.below k2 HSZ.out
    obtain ⟨r0, r1, r2, r3⟩ := box2 D2.r
    go_wp2
    (try simp only [Exit.inBlock, Exit.then])
    refine bodyPost_ret (v := .tuple #[.agg #[.slice none 0 0, .slice none 0 0], .int .i64 11]) (by rw [results_cell_tmp rfl]; go_simp) rfl ?_
    exact ⟨fun h => absurd h HNE.out, fun _ => AnsQ.nil (by omega) D2.bel⟩

set_option maxHeartbeats 8000000 in
set_option maxRecDepth 20000 in
theorem refSorted7_38 (so ao uo bo : Option Addr) (sn sc an ac tn tc bn bc : Nat) (s a t b : List Int) (w : World) (hs : Rd w so sn s) (ss : Sl so sn sc) (ha : Rd w ao an a) (sa : Sl ao an ac) (mx : mayA s a = 0) (ht : Rd w uo tn t) (st : Sl uo tn tc) (hb : Rd w bo bn b) (sb : Sl bo bn bc) (my : mayA t b = 0) :
    Calls Tryz.prog 34 #[.int .i64 38, .agg #[.slice so sn sc, .slice ao an ac], .agg #[.slice uo tn tc, .slice bo bn bc]] w fun e w' => (tal s = tal t → AnsQ w (fun S A => ∃ ps, Pls (cDn (itX t b)) (itN t) ps ∧ S = (itN t : Int) :: s.drop 1 ∧ A = chA (itX s a) ps (itN t)) 0 e w') ∧ (¬ tal s = tal t → AnsQ w (fun S A => S = [] ∧ A = []) 11 e w') := by
  have D0 := du_startQ w so sn sc ao an ac uo tn tc bo bn bc
  have sz0 := D0.sz
  have e1 := itN_tal (mayA_zero mx).1
  have e2 := itN_tal (mayA_zero my).1
  have b1 := tal_bd (mayA_zero mx).1
  have b2 := tal_bd (mayA_zero my).1
  have hnx : itN s ≤ 4096 := by omega
  have hny : itN t ≤ 4096 := by omega
  rw [← e1, ← e2]
  have HI1 : Hid (∀ V, Below w.heap.size w V → Calls Tryz.prog 33 #[.agg #[.slice so sn sc, .slice ao an ac]] V fun e w' => e = .returned (.int .i64 ((itN s : Nat) : Int)) ∧ Below V.heap.size V w') := fun V k => refItmN so ao sn sc an ac s a V (hs.below k (Nat.le_refl _)) (ha.below k (Nat.le_refl _)) mx
  have HI2 : Hid (∀ V, Below w.heap.size w V → Calls Tryz.prog 33 #[.agg #[.slice uo tn tc, .slice bo bn bc]] V fun e w' => e = .returned (.int .i64 ((itN t : Nat) : Int)) ∧ Below V.heap.size V w') := fun V k => refItmN uo bo tn tc bn bc t b V (ht.below k (Nat.le_refl _)) (hb.below k (Nat.le_refl _)) my
  have HL : Hid (∀ V, Below w.heap.size w V → Calls Tryz.prog 23 #[.agg #[.slice uo tn tc, .slice bo bn bc]] V fun e w' => ∃ go gc, e = .returned (.slice go (itN t) gc) ∧ Gv w' V.heap.size go (itN t) gc (itX t b) ∧ Below V.heap.size V w') := fun V k => refItems7_any uo bo tn tc bn bc t b V (ht.below k (Nat.le_refl _)) st (hb.below k (Nat.le_refl _)) sb my
  have HG : Hid (∀ V po pc (ps : List Int), Below w.heap.size w V → Rd V po (itN t) ps → inN (itN s) ps → Calls Tryz.prog 24 #[.agg #[.slice so sn sc, .slice ao an ac], .slice po (itN t) pc] V fun e w' => ∃ o1 n1 c1 o2 n2 c2, e = .returned (.agg #[.slice o1 n1 c1, .slice o2 n2 c2]) ∧ Ft 3 w' V.heap.size o1 n1 c1 ((itN t : Int) :: s.drop 1) ∧ Ft 2 w' V.heap.size o2 n2 c2 (chA (itX s a) ps (itN t)) ∧ Below V.heap.size V w') := fun V po pc ps k hr hi => refGathered7 so ao sn sc an ac s a po (itN t) pc ps V (hs.below k (Nat.le_refl _)) ss (ha.below k (Nat.le_refl _)) sa mx hr hi (by omega)
  have HO : Hid (∀ V lo lc, AsQ V lo (itN t) (itX t b) → Calls Tryz.prog 30 #[.slice lo (itN t) lc, .int .i64 (-1)] V fun e w' => ∃ o cc ps, e = .returned (.slice o (itN t) cc) ∧ Pls (cDn (itX t b)) (itN t) ps ∧ Ft 3 w' V.heap.size o (itN t) cc ps ∧ Below V.heap.size V w') := fun V lo lc h => refOrder7 lo (itN t) lc (itX t b) (-1) (cDn (itX t b)) V (fun N => cDn3 N _) (way_dn _) h (by omega)
  clear e1 e2 b1 b2 hs ha ht hb mx my ss sa st sb
  generalize itX s a = xs at *
  generalize itX t b = zs at *
  generalize s.drop 1 = ds at *
  generalize itN s = n at *
  generalize itN t = m at *
  have HD : Hid (∀ V, Below w.heap.size w V → True) := fun _ _ => trivial
  obtain ⟨W, hW⟩ : ∃ W, W = ((w.alloc (.cells #[.slice so sn sc, .slice ao an ac] 30)).alloc (.cells #[.slice uo tn tc, .slice bo bn bc] 30)).alloc (.cells #[.slice none 0 0, .slice none 0 0] 30) := ⟨_, rfl⟩
  rw [← hW] at D0 sz0
  have HW : Hid (((w.alloc (.cells #[.slice so sn sc, .slice ao an ac] 30)).alloc (.cells #[.slice uo tn tc, .slice bo bn bc] 30)).alloc (.cells #[.slice none 0 0, .slice none 0 0] 30) = W) := hW.symm
  clear hW HD
  have AL : ∀ V, Below W.heap.size W V → V.cell? ⟨w.heap.size, 0, none⟩ = some (.slice so sn sc) ∧ V.cell? ⟨w.heap.size, 1, none⟩ = some (.slice ao an ac) ∧ V.cell? ⟨w.heap.size + 1, 0, none⟩ = some (.slice uo tn tc) ∧ V.cell? ⟨w.heap.size + 1, 1, none⟩ = some (.slice bo bn bc) ∧ Below W.heap.size W V := fun V kk => by
    have D := D0.below kk sz0
    obtain ⟨a0, a1, _, _⟩ := box2 D.x
    obtain ⟨c0, c1, _, _⟩ := box2 D.y
    exact ⟨a0, a1, c0, c1, kk⟩
  have HAL : Hid (∀ V, Below W.heap.size W V → V.cell? ⟨w.heap.size, 0, none⟩ = some (.slice so sn sc) ∧ V.cell? ⟨w.heap.size, 1, none⟩ = some (.slice ao an ac) ∧ V.cell? ⟨w.heap.size + 1, 0, none⟩ = some (.slice uo tn tc) ∧ V.cell? ⟨w.heap.size + 1, 1, none⟩ = some (.slice bo bn bc) ∧ Below W.heap.size W V) := AL
  have bD := D0.bel
  have c1 : ∀ V, Below W.heap.size W V → Calls Tryz.prog 33 #[.agg #[.slice so sn sc, .slice ao an ac]] V fun e w' => e = .returned (.int .i64 (n : Int)) ∧ Below W.heap.size W w' := fun V kk => (HI1.out V (bD.trans (kk.mono bD.size))).mono fun e w' h => ⟨h.1, kk.trans (h.2.mono kk.size)⟩
  have c2 : ∀ V, Below W.heap.size W V → Calls Tryz.prog 33 #[.agg #[.slice uo tn tc, .slice bo bn bc]] V fun e w' => e = .returned (.int .i64 (m : Int)) ∧ Below W.heap.size W w' := fun V kk => (HI2.out V (bD.trans (kk.mono bD.size))).mono fun e w' h => ⟨h.1, kk.trans (h.2.mono kk.size)⟩
  have HDD : Hid (DuQ w W so sn sc ao an ac uo tn tc bo bn bc) := D0
  have HSZ : Hid (w.heap.size + 3 ≤ W.heap.size) := sz0
  have B0 : Below W.heap.size W W := Below.refl _ _
  clear D0 sz0
  by_cases hnm : n = m
  · subst hnm
    have t1 : ((n : Int) != (n : Int)) = false := by simp
    have t1' : ((n : Int) == (n : Int)) = true := by simp
    go_enter Tryz.func34, Tryz.ntmps34
    go_wp2
    rw [HW.out]
    go_region_held3 (fun V => V.cell? ⟨w.heap.size, 0, none⟩ = some (.slice so sn sc) ∧ V.cell? ⟨w.heap.size, 1, none⟩ = some (.slice ao an ac) ∧ V.cell? ⟨w.heap.size + 1, 0, none⟩ = some (.slice uo tn tc) ∧ V.cell? ⟨w.heap.size + 1, 1, none⟩ = some (.slice bo bn bc) ∧ Below W.heap.size W V) (first | exact AL _ (by assumption) | exact AL _ (Below.drew (by assumption)))
      (first
        | (go_at_call 33; (with_reducible refine (c1 _ (‹_ ∧ _ ∧ _ ∧ _ ∧ Below W.heap.size W _›).2.2.2.2).mono ?_); rintro e V1 ⟨rfl, k1⟩)
        | (go_at_call 33; (with_reducible refine (c2 _ (‹_ ∧ _ ∧ _ ∧ _ ∧ Below W.heap.size W _›).2.2.2.2).mono ?_); rintro e V2 ⟨rfl, k2⟩))
    clear c1 c2 AL B0
    have D2 := HDD.out.below k2 HSZ.out
    have sz2 := D2.sz
    have bD2 := D2.bel
    have AL2 : ∀ V, Below V2.heap.size V2 V → V.cell? ⟨w.heap.size, 0, none⟩ = some (.slice so sn sc) ∧ V.cell? ⟨w.heap.size, 1, none⟩ = some (.slice ao an ac) ∧ V.cell? ⟨w.heap.size + 1, 0, none⟩ = some (.slice uo tn tc) ∧ V.cell? ⟨w.heap.size + 1, 1, none⟩ = some (.slice bo bn bc) ∧ Below V2.heap.size V2 V := fun V kk => by
      obtain ⟨z0, z1, z2, z3, _⟩ := HAL.out V (k2.trans (kk.mono k2.size))
      exact ⟨z0, z1, z2, z3, kk⟩
    have cL : ∀ V, Below V2.heap.size V2 V → Calls Tryz.prog 23 #[.agg #[.slice uo tn tc, .slice bo bn bc]] V fun e w' => ∃ go gc, e = .returned (.slice go n gc) ∧ AsQ w' go n zs ∧ Below V2.heap.size V2 w' ∧ Below V.heap.size V w' := fun V kk => (HL.out V (bD2.trans (kk.mono bD2.size))).mono fun e w' ⟨go, gc, h1, h2, h3⟩ => ⟨go, gc, h1, gv_as h2 (by omega), kk.trans (h3.mono kk.size), h3⟩
    have cO : ∀ V lo lc, Below V2.heap.size V2 V → AsQ V lo n zs → Calls Tryz.prog 30 #[.slice lo n lc, .int .i64 (-1)] V fun e w' => ∃ o cc ps, e = .returned (.slice o n cc) ∧ Hid (Pls (cDn zs) n ps) ∧ Rd w' o n ps ∧ Below V2.heap.size V2 w' ∧ Below V.heap.size V w' := fun V lo lc kk h => (HO.out V lo lc h).mono fun e w' ⟨o, cc, ps, h1, h2, h3, h4⟩ => ⟨o, cc, ps, h1, h2, h3.rd, kk.trans (h4.mono kk.size), h4⟩
    have cG : ∀ V po pc (ps : List Int), Below V2.heap.size V2 V → Hid (Pls (cDn zs) n ps) → Rd V po n ps → Calls Tryz.prog 24 #[.agg #[.slice so sn sc, .slice ao an ac], .slice po n pc] V fun e w' => ∃ o1 n1 c1 o2 n2 c2, e = .returned (.agg #[.slice o1 n1 c1, .slice o2 n2 c2]) ∧ Ft 3 w' V2.heap.size o1 n1 c1 ((n : Int) :: ds) ∧ Ft 2 w' V2.heap.size o2 n2 c2 (chA xs ps n) ∧ Below V2.heap.size V2 w' ∧ Below V.heap.size V w' := fun V po pc ps kk hP hr => (HG.out V po pc ps (bD2.trans (kk.mono bD2.size)) hr hP.out.inn).mono fun e w' ⟨o1, n1, c1, o2, n2, c2, h1, h2, h3, h4⟩ => ⟨o1, n1, c1, o2, n2, c2, h1, h2.mono kk.size, h3.mono kk.size, kk.trans (h4.mono kk.size), h4⟩
    have HRR : Hid (V2.heap[w.heap.size + 1 + 1]? = some (.cells #[.slice none 0 0, .slice none 0 0] 30 (0, 0))) := D2.r
    have HR3 : w.heap.size + 1 + 1 < V2.heap.size := by omega
    have B2 : Below V2.heap.size V2 V2 := Below.refl _ _
    have HBD : Hid (Below w.heap.size w V2) := bD2
    clear D2 sz2 bD2 k1 k2
    go_wp2
    go_cut [9] (fun q V => ∃ qb o1 n1 c1 o2 n2 c2 ps, q = .pointer (some ⟨qb, 0, none⟩) ∧ (V.cell? ⟨qb, 0, none⟩ = some (.slice o1 n1 c1) ∧ V.cell? ⟨qb, 1, none⟩ = some (.slice o2 n2 c2)) ∧ Hid (Pls (cDn zs) n ps) ∧ Ft 3 V V2.heap.size o1 n1 c1 ((n : Int) :: ds) ∧ Ft 2 V V2.heap.size o2 n2 c2 (chA xs ps n) ∧ Below V2.heap.size V2 V)
    case first =>
      go_region_held3 (fun V => V.cell? ⟨w.heap.size, 0, none⟩ = some (.slice so sn sc) ∧ V.cell? ⟨w.heap.size, 1, none⟩ = some (.slice ao an ac) ∧ V.cell? ⟨w.heap.size + 1, 0, none⟩ = some (.slice uo tn tc) ∧ V.cell? ⟨w.heap.size + 1, 1, none⟩ = some (.slice bo bn bc) ∧ Below V2.heap.size V2 V) (exact AL2 _ (by repeat (first | assumption | exact Below.refl _ _ | refine Below.drew ?_ | refine bgA _ ?_ (Nat.le_refl _) | refine bgS _ ?_ (by first | exact Nat.le_refl _ | exact k3.size | exact k4.size | exact k5.size))))
        (first
          | (go_at_call 23; (with_reducible refine (cL (V2.alloc (.cells #[.slice none 0 0, .slice none 0 0] 30)).drew (bgA _ B2 (Nat.le_refl _)).drew).mono ?_); rintro e V3 ⟨lo, lc, rfl, A3, k3, k3'⟩; have nb1 := (k3'.block V2.heap.size (show V2.heap.size < (V2.alloc (.cells #[.slice none 0 0, .slice none 0 0] 30)).heap.size by simp)).trans (allocNew V2 (.cells #[.slice none 0 0, .slice none 0 0] 30)))
          | (go_at_call 23; (with_reducible refine (cL V2.drew B2.drew).mono ?_); rintro e V3 ⟨lo, lc, rfl, A3, k3, k3'⟩)
          | (go_at_call 30; (with_reducible refine (cO V3 lo lc k3 A3).mono ?_); rintro e V4 ⟨oo, oc, ps, rfl, HP, R4, k4, k4'⟩; have nb2 := (k4'.block V2.heap.size (Array.getElem?_eq_some_iff.1 nb1).1).trans nb1)
          | (go_at_call 30; (with_reducible refine (cO (V3.alloc (.cells #[.slice none 0 0, .slice none 0 0] 30)) lo lc (bgA _ k3 (Nat.le_refl _)) (A3.below (box_below V3 _) (Nat.le_refl _))).mono ?_); rintro e V4 ⟨oo, oc, ps, rfl, HP, R4, k4, k4'⟩; have nb2 := (k4'.block V3.heap.size (by simp)).trans (allocNew V3 (.cells #[.slice none 0 0, .slice none 0 0] 30)))
          | (go_at_call 30; (with_reducible refine (cO V3 lo lc k3 A3).mono ?_); rintro e V4 ⟨oo, oc, ps, rfl, HP, R4, k4, k4'⟩)
          | (go_at_call 24; (with_reducible refine (cG V4 oo oc ps k4 HP R4).mono ?_); rintro e V5 ⟨o1, n1, c1, o2, n2, c2, rfl, f1, f2, k5, k5'⟩; have nb3 := (k5'.block _ (Array.getElem?_eq_some_iff.1 nb2).1).trans nb2; obtain ⟨x0, x1, x2, x3⟩ := box2 nb3)
          | (go_at_call 24; (with_reducible refine (cG (V4.alloc (.cells #[.slice none 0 0, .slice none 0 0] 30)) oo oc ps (bgA _ k4 (Nat.le_refl _)) HP (R4.below (box_below V4 _) (Nat.le_refl _))).mono ?_); rintro e V5 ⟨o1, n1, c1, o2, n2, c2, rfl, f1, f2, k5, k5'⟩; have nb3 := (k5'.block V4.heap.size (by simp)).trans (allocNew V4 (.cells #[.slice none 0 0, .slice none 0 0] 30)); obtain ⟨x0, x1, x2, x3⟩ := box2 nb3)
          | (go_at_call 24; (with_reducible refine (cG V4 oo oc ps k4 HP R4).mono ?_); rintro e V5 ⟨o1, n1, c1, o2, n2, c2, rfl, f1, f2, k5, k5'⟩))
      all_goals
        go_wp2
        go_meet
        case rel =>
          first
            | (refine ⟨V2.heap.size, o1, n1, c1, o2, n2, c2, ps, rfl, ⟨?_, ?_⟩, HP, f1.kind (set2 V5 V2.heap.size _ _ _ _) nb3 (by decide), f2.kind (set2 V5 V2.heap.size _ _ _ _) nb3 (by decide), bgS _ (bgS _ k5 (Nat.le_refl _)) (Nat.le_refl _)⟩ <;> go_simp)
            | (refine ⟨V3.heap.size, o1, n1, c1, o2, n2, c2, ps, rfl, ⟨?_, ?_⟩, HP, f1.kind (set2 V5 V3.heap.size _ _ _ _) nb3 (by decide), f2.kind (set2 V5 V3.heap.size _ _ _ _) nb3 (by decide), bgS _ (bgS _ k5 k3.size) k3.size⟩ <;> go_simp)
            | (refine ⟨V4.heap.size, o1, n1, c1, o2, n2, c2, ps, rfl, ⟨?_, ?_⟩, HP, f1.kind (set2 V5 V4.heap.size _ _ _ _) nb3 (by decide), f2.kind (set2 V5 V4.heap.size _ _ _ _) nb3 (by decide), bgS _ (bgS _ k5 k4.size) k4.size⟩ <;> go_simp)
            | (refine ⟨V5.heap.size, o1, n1, c1, o2, n2, c2, ps, rfl, ⟨?_, ?_⟩, HP, f1.below (box_below V5 _) (Nat.le_refl _), f2.below (box_below V5 _) (Nat.le_refl _), bgA _ k5 (Nat.le_refl _)⟩ <;> go_simp)
    case rest =>
      obtain ⟨qb, o1, n1, c1, o2, n2, c2, ps, rfl, ⟨d0, d1⟩, HP, f1, f2, kc⟩ := hcut
      have rV := (kc.block (w.heap.size + 1 + 1) HR3).trans HRR.out
      obtain ⟨r0, r1, r2, r3⟩ := box2 rV
      go_wp2
      (try simp only [Exit.inBlock, Exit.then])
      refine bodyPost_ret (v := .tuple #[.agg #[.slice o1 n1 c1, .slice o2 n2 c2], .int .i64 0]) (by rw [results_cell_tmp rfl]; go_simp) rfl ?_
      have kw : Below w.heap.size w wc := HBD.out.trans (kc.mono HBD.out.size)
      refine ⟨fun _ => (AnsQ.two f1 f2 HBD.out.size HBD.out.size rV (by omega) kw).mono fun S A h => ⟨ps, HP.out, h.1, h.2⟩, fun h => absurd trivial h⟩
  · have t1 : ((n : Int) != (m : Int)) = true := by simp; omega
    have t1' : ((n : Int) == (m : Int)) = false := by simp; omega
    have hnm2 : ¬ (n : Int) = (m : Int) := by omega
    have HNE : Hid (¬ (n : Int) = (m : Int)) := hnm2
    clear hnm hnm2
    go_enter Tryz.func34, Tryz.ntmps34
    go_wp2
    rw [HW.out]
    go_region_held3 (fun V => V.cell? ⟨w.heap.size, 0, none⟩ = some (.slice so sn sc) ∧ V.cell? ⟨w.heap.size, 1, none⟩ = some (.slice ao an ac) ∧ V.cell? ⟨w.heap.size + 1, 0, none⟩ = some (.slice uo tn tc) ∧ V.cell? ⟨w.heap.size + 1, 1, none⟩ = some (.slice bo bn bc) ∧ Below W.heap.size W V) (first | exact AL _ (by assumption) | exact AL _ (Below.drew (by assumption)))
      (first
        | (go_at_call 33; (with_reducible refine (c1 _ (‹_ ∧ _ ∧ _ ∧ _ ∧ Below W.heap.size W _›).2.2.2.2).mono ?_); rintro e V1 ⟨rfl, k1⟩)
        | (go_at_call 33; (with_reducible refine (c2 _ (‹_ ∧ _ ∧ _ ∧ _ ∧ Below W.heap.size W _›).2.2.2.2).mono ?_); rintro e V2 ⟨rfl, k2⟩))
    have D2 := HDD.out.below k2 HSZ.out
    obtain ⟨r0, r1, r2, r3⟩ := box2 D2.r
    go_wp2
    (try simp only [Exit.inBlock, Exit.then])
    refine bodyPost_ret (v := .tuple #[.agg #[.slice none 0 0, .slice none 0 0], .int .i64 11]) (by rw [results_cell_tmp rfl]; go_simp) rfl ?_
    exact ⟨fun h => absurd h HNE.out, fun _ => AnsQ.nil (by omega) D2.bel⟩
end Go.Proofs.YtmepcenbaohcoaaGreat
