
/- The document's answers for package seek: Dyad. -/

import Derived.Test.YtmepcenbaohcoaaGreatRSl

namespace Go.Proofs.YtmepcenbaohcoaaGreat

open Go.RowKit

set_option linter.unusedVariables false

theorem as_two {so ao uo bo : Option Addr} {sn sc an ac tn tc bn bc : Nat} {s a t b : List Int} (W : World) (hs : Rd W so sn s) (ss : Sl so sn sc) (ha : Rd W ao an a) (sa : Sl ao an ac) (ht : Rd W uo tn t) (st : Sl uo tn tc) (hb : Rd W bo bn b) (sb : Sl bo bn bc) : AsQ (W.alloc (.cells #[.slice so sn sc, .slice ao an ac, .slice uo tn tc, .slice bo bn bc] 30)) (some ⟨W.heap.size, 0, none⟩) 2 (fun j => if j = 0 then (s, a) else (t, b)) := by
  have k := box_below W (.cells #[.slice so sn sc, .slice ao an ac, .slice uo tn tc, .slice bo bn bc] 30)
  obtain ⟨⟨x0, x1, x2, x3⟩, _⟩ := box4r (allocNew W (.cells #[.slice so sn sc, .slice ao an ac, .slice uo tn tc, .slice bo bn bc] 30))
  refine ⟨by omega, fun _ => ⟨W.heap.size, 0, rfl, by simp, fun j hj => ?_⟩⟩
  by_cases h : j = 0
  · subst h
    exact ⟨so, sn, sc, ao, an, ac, x0, x1, hs.below k (Nat.le_refl _), ss, ha.below k (Nat.le_refl _), sa⟩
  · obtain rfl : j = 1 := by omega
    exact ⟨uo, tn, tc, bo, bn, bc, x2, x3, ht.below k (Nat.le_refl _), st, hb.below k (Nat.le_refl _), sb⟩
theorem flt_in (p : Nat → Bool) (k : Nat) : inN k (flt p k) := fun j hj => by
  have h := nth_mem hj
  unfold flt at h
  rw [List.mem_map] at h
  obtain ⟨q, hq, e⟩ := h
  rw [List.mem_filter, List.mem_range] at hq
  have : nth (flt p k) j = (q : Int) := e.symm
  rw [this]
  omega
/-- The document's places of the cells of y among the items of x. -/
theorem refFoundQ (so ao uo bo : Option Addr) (sn sc an ac tn tc bn bc : Nat) (s a t b : List Int) (w : World) (hs : Rd w so sn s) (ss : Sl so sn sc) (ha : Rd w ao an a) (sa : Sl ao an ac) (ht : Rd w uo tn t) (st : Sl uo tn tc) (hb : Rd w bo bn b) (sb : Sl bo bn bc) (mx : mayA s a = 0) (my : mayA t b = 0) :
    Calls Tryz.prog 32 #[.agg #[.slice so sn sc, .slice ao an ac], .agg #[.slice uo tn tc, .slice bo bn bc]] w fun e w' => ∃ o1 c1 o2 c2, e = .returned (.agg #[.slice o1 (frN t.length s.length) c1, .slice o2 (cun t (frN t.length s.length)) c2]) ∧ Ft 3 w' w.heap.size o1 (frN t.length s.length) c1 (t.take (frN t.length s.length)) ∧ Ft 2 w' w.heap.size o2 (cun t (frN t.length s.length)) c2 (ecL (tP (itX s a) (itN s)) (cux t b (frN t.length s.length)) (cun t (frN t.length s.length))) ∧ Below w.heap.size w w' := by
  have m1 := (mayA_zero mx).1
  have m2 := (mayA_zero my).1
  have hn4 : itN s ≤ 4096 := by
    have := itN_tal m1
    have := tal_bd m1
    omega
  have hN4 : cun t (frN t.length s.length) ≤ 4096 := by
    have := prG_bd (mayF_takeQ m2 (frN t.length s.length))
    unfold cun
    omega
  have s8 : s.length ≤ 8 := (mayF_zero m1).2.1
  have e1 := hs.len
  have e2 := ht.len
  refine refFound7 so ao uo bo sn sc an ac tn tc bn bc (itN s) _ _ (itX s a) (cux t b (frN t.length s.length)) _ w hn4 hN4 (fun V k => refItems7_any so ao sn sc an ac s a V (hs.below k (Nat.le_refl _)) ss (ha.below k (Nat.le_refl _)) sa mx) (fun V k => ?_)
  refine refCells7 so ao uo bo sn sc an ac tn tc bn bc _ _ _ _ V (fun U kk => ?_) (fun U kk => ?_)
  · have kU := k.trans (kk.mono k.size)
    exact refOneQ uo bo tn tc bn bc t b (sn - 1) _ U (ht.below kU (Nat.le_refl _)) st (hb.below kU (Nat.le_refl _)) sb my (by omega) (by unfold frN; rw [e1, e2])
  · have kU := k.trans (kk.mono k.size)
    exact (refRest_any so ao sn sc an ac s U (hs.below kU (Nat.le_refl _)) ss).mono fun e w' ⟨o, c, h1, _, h3⟩ => ⟨o, c, h1, h3⟩

set_option maxHeartbeats 4000000 in
theorem rd_bad (O E : Int) (ok : Bool) (so ao uo bo : Option Addr) (sn sc an ac tn tc bn bc : Nat) (s a t b : List Int) (w : World) (hs : Rd w so sn s) (ss : Sl so sn sc) (ha : Rd w ao an a) (sa : Sl ao an ac) (ht : Rd w uo tn t) (st : Sl uo tn tc) (hb : Rd w bo bn b) (sb : Sl bo bn bc) (HOK : ok = true ↔ ∀ j, j < 2 → mayA ((fun j => if j = 0 then (s, a) else (t, b)) j).1 ((fun j => if j = 0 then (s, a) else (t, b)) j).2 = 0) (HBD : bdS O 2 ok = E) (hE : E ≠ 0) :
    Calls Tryz.prog 18 #[.int .i64 O, .agg #[.slice so sn sc, .slice ao an ac], .agg #[.slice uo tn tc, .slice bo bn bc]] w fun e w' => AnsQ w (fun S A => S = [] ∧ A = []) E e w' := by
  have D0 := du_startQ w so sn sc ao an ac uo tn tc bo bn bc
  have uz := D0.sz
  have kA := box_below (((w.alloc (.cells #[.slice so sn sc, .slice ao an ac] 30)).alloc (.cells #[.slice uo tn tc, .slice bo bn bc] 30)).alloc (.cells #[.slice none 0 0, .slice none 0 0] 30)) (.cells #[.slice so sn sc, .slice ao an ac, .slice uo tn tc, .slice bo bn bc] 30)
  have DA := D0.below kA uz
  have AA := as_two (sc := sc) (ac := ac) (tc := tc) (bc := bc) _ (hs.below D0.bel (Nat.le_refl _)) ss (ha.below D0.bel (Nat.le_refl _)) sa (ht.below D0.bel (Nat.le_refl _)) st (hb.below D0.bel (Nat.le_refl _)) sb
  have cB := refBad7 O 2 _ 2 2 (fun j => if j = 0 then (s, a) else (t, b)) ok _ AA (by omega) HOK
  rw [show bdS O 2 ok = E from HBD] at cB
  simp only [World.size_alloc] at cB
  obtain ⟨q0, q1, _, _⟩ := box2 D0.x
  obtain ⟨p0, p1, _, _⟩ := box2 D0.y
  have HRB : Hid (∀ V, Below w.heap.size w V → (Rd V so sn s ∧ Rd V ao an a) ∧ (Rd V uo tn t ∧ Rd V bo bn b)) := fun V k => ⟨⟨hs.below k (Nat.le_refl _), ha.below k (Nat.le_refl _)⟩, ⟨ht.below k (Nat.le_refl _), hb.below k (Nat.le_refl _)⟩⟩
  have uzA := DA.sz
  have te : (E != 0) = true := by simpa using hE
  have te2 : (E == 0) = false := by simpa using hE
  clear HOK HBD hE
  go_enter Tryz.func18, Tryz.ntmps18
  go_wp2_with (first | (go_at_call 22; (with_reducible refine cB.mono ?_); rintro e V1 ⟨rfl, k1⟩; have D1 := DA.below k1 (by first | exact uzA | omega); have uz1 := D1.sz; have b1 := D1.bel; clear q0 q1 p0 p1 cB k1 kA D0 DA AA; obtain ⟨q0, q1, _, _⟩ := box2 D1.x; obtain ⟨p0, p1, _, _⟩ := box2 D1.y; obtain ⟨r0, r1, r2, r3⟩ := box2 D1.r))
  (try simp only [Exit.inBlock, Exit.then])
  refine bodyPost_ret (v := .tuple #[.agg #[.slice none 0 0, .slice none 0 0], .int .i64 E]) (by rw [results_cell_tmp rfl]; go_simp) rfl ?_
  exact AnsQ.nil (by omega) D1.bel

set_option maxHeartbeats 8000000 in
set_option maxRecDepth 20000 in
theorem rd_27 (E : Int) (S A : List Int) (so ao uo bo : Option Addr) (sn sc an ac tn tc bn bc : Nat) (s a t b : List Int) (w : World) (hs : Rd w so sn s) (ss : Sl so sn sc) (ha : Rd w ao an a) (sa : Sl ao an ac) (ht : Rd w uo tn t) (st : Sl uo tn tc) (hb : Rd w bo bn b) (sb : Sl bo bn bc) (mx : mayA s a = 0) (my : mayA t b = 0) (HC : Hid (∀ V, Below w.heap.size w V → Calls Tryz.prog 31 #[.agg #[.slice so sn sc, .slice ao an ac], .agg #[.slice uo tn tc, .slice bo bn bc]] V fun e w' => AnsQ V (fun S' A' => S' = S ∧ A' = A) E e w')) :
    Calls Tryz.prog 18 #[.int .i64 27, .agg #[.slice so sn sc, .slice ao an ac], .agg #[.slice uo tn tc, .slice bo bn bc]] w fun e w' => AnsQ w (fun S' A' => S' = S ∧ A' = A) E e w' := by
  have HOK : true = true ↔ ∀ j, j < 2 → mayA ((fun j => if j = 0 then (s, a) else (t, b)) j).1 ((fun j => if j = 0 then (s, a) else (t, b)) j).2 = 0 := ⟨fun _ j hj => (by
    show mayA (if j = 0 then (s, a) else (t, b)).1 (if j = 0 then (s, a) else (t, b)).2 = 0
    by_cases h : j = 0
    · rw [if_pos h]; exact mx
    · rw [if_neg h]; exact my), fun _ => rfl⟩
  have HBD : bdS 27 2 true = 0 := by decide
  have D0 := du_startQ w so sn sc ao an ac uo tn tc bo bn bc
  have uz := D0.sz
  have kA := box_below (((w.alloc (.cells #[.slice so sn sc, .slice ao an ac] 30)).alloc (.cells #[.slice uo tn tc, .slice bo bn bc] 30)).alloc (.cells #[.slice none 0 0, .slice none 0 0] 30)) (.cells #[.slice so sn sc, .slice ao an ac, .slice uo tn tc, .slice bo bn bc] 30)
  have DA := D0.below kA uz
  have AA := as_two (sc := sc) (ac := ac) (tc := tc) (bc := bc) _ (hs.below D0.bel (Nat.le_refl _)) ss (ha.below D0.bel (Nat.le_refl _)) sa (ht.below D0.bel (Nat.le_refl _)) st (hb.below D0.bel (Nat.le_refl _)) sb
  have cB := refBad7 27 2 _ 2 2 (fun j => if j = 0 then (s, a) else (t, b)) true _ AA (by omega) HOK
  rw [show bdS 27 2 true = 0 from HBD] at cB
  simp only [World.size_alloc] at cB
  obtain ⟨q0, q1, _, _⟩ := box2 D0.x
  obtain ⟨p0, p1, _, _⟩ := box2 D0.y
  have HRB : Hid (∀ V, Below w.heap.size w V → (Rd V so sn s ∧ Rd V ao an a) ∧ (Rd V uo tn t ∧ Rd V bo bn b)) := fun V k => ⟨⟨hs.below k (Nat.le_refl _), ha.below k (Nat.le_refl _)⟩, ⟨ht.below k (Nat.le_refl _), hb.below k (Nat.le_refl _)⟩⟩
  have uzA := DA.sz
  clear HOK HBD
  go_enter Tryz.func18, Tryz.ntmps18
  go_wp2_with (first
    | (go_at_call 22; (with_reducible refine cB.mono ?_); rintro e V1 ⟨rfl, k1⟩; have D1 := DA.below k1 (by first | exact uzA | omega); have uz1 := D1.sz; have b1 := D1.bel; clear q0 q1 p0 p1 cB k1 kA D0 DA AA; obtain ⟨q0, q1, _, _⟩ := box2 D1.x; obtain ⟨p0, p1, _, _⟩ := box2 D1.y; obtain ⟨r0, r1, r2, r3⟩ := box2 D1.r; have cC := HC.out V1 b1)
    | (go_at_call 31; (with_reducible refine cC.mono ?_); rintro e V2 ⟨o1, n1, c1, o2, n2, c2, S1, A1, rfl, f1, f2, ⟨hS1, hA1⟩, k2⟩; have D2 := D1.below k2 uz1; have uz2 := D2.sz; have kq := box_below V2 (.cells #[.slice o1 n1 c1, .slice o2 n2 c2] 30); have D3 := D2.below kq uz2; clear q0 q1 p0 p1 r0 r1 r2 r3; obtain ⟨r0, r1, r2, r3⟩ := box2 D3.r; have g1 := f1.below kq (Nat.le_refl _); have g2 := f2.below kq (Nat.le_refl _)))
  (try simp only [Exit.inBlock, Exit.then])
  refine bodyPost_ret (v := .tuple #[.agg #[.slice o1 n1 c1, .slice o2 n2 c2], .int .i64 (E)]) (by rw [results_cell_tmp rfl]; go_simp) rfl ?_
  subst hS1
  subst hA1
  exact AnsQ.two g1 g2 D1.bel.size D1.bel.size D3.r (by omega) D3.bel

set_option maxHeartbeats 8000000 in
set_option maxRecDepth 20000 in
theorem rd_34 (so ao uo bo : Option Addr) (sn sc an ac tn tc bn bc : Nat) (s a t b : List Int) (w : World) (hs : Rd w so sn s) (ss : Sl so sn sc) (ha : Rd w ao an a) (sa : Sl ao an ac) (ht : Rd w uo tn t) (st : Sl uo tn tc) (hb : Rd w bo bn b) (sb : Sl bo bn bc) (mx : mayA s a = 0) (my : mayA t b = 0) :
    Calls Tryz.prog 18 #[.int .i64 34, .agg #[.slice so sn sc, .slice ao an ac], .agg #[.slice uo tn tc, .slice bo bn bc]] w fun e w' => AnsQ w (fun S A => S = t.take (frN t.length s.length) ∧ A = ecL (tP (itX s a) (itN s)) (cux t b (frN t.length s.length)) (cun t (frN t.length s.length))) 0 e w' := by
  have HOK : true = true ↔ ∀ j, j < 2 → mayA ((fun j => if j = 0 then (s, a) else (t, b)) j).1 ((fun j => if j = 0 then (s, a) else (t, b)) j).2 = 0 := ⟨fun _ j hj => (by
    show mayA (if j = 0 then (s, a) else (t, b)).1 (if j = 0 then (s, a) else (t, b)).2 = 0
    by_cases h : j = 0
    · rw [if_pos h]; exact mx
    · rw [if_neg h]; exact my), fun _ => rfl⟩
  have HBD : bdS 34 2 true = 0 := by decide
  have D0 := du_startQ w so sn sc ao an ac uo tn tc bo bn bc
  have uz := D0.sz
  have kA := box_below (((w.alloc (.cells #[.slice so sn sc, .slice ao an ac] 30)).alloc (.cells #[.slice uo tn tc, .slice bo bn bc] 30)).alloc (.cells #[.slice none 0 0, .slice none 0 0] 30)) (.cells #[.slice so sn sc, .slice ao an ac, .slice uo tn tc, .slice bo bn bc] 30)
  have DA := D0.below kA uz
  have AA := as_two (sc := sc) (ac := ac) (tc := tc) (bc := bc) _ (hs.below D0.bel (Nat.le_refl _)) ss (ha.below D0.bel (Nat.le_refl _)) sa (ht.below D0.bel (Nat.le_refl _)) st (hb.below D0.bel (Nat.le_refl _)) sb
  have cB := refBad7 34 2 _ 2 2 (fun j => if j = 0 then (s, a) else (t, b)) true _ AA (by omega) HOK
  rw [show bdS 34 2 true = 0 from HBD] at cB
  simp only [World.size_alloc] at cB
  obtain ⟨q0, q1, _, _⟩ := box2 D0.x
  obtain ⟨p0, p1, _, _⟩ := box2 D0.y
  have HRB : Hid (∀ V, Below w.heap.size w V → (Rd V so sn s ∧ Rd V ao an a) ∧ (Rd V uo tn t ∧ Rd V bo bn b)) := fun V k => ⟨⟨hs.below k (Nat.le_refl _), ha.below k (Nat.le_refl _)⟩, ⟨ht.below k (Nat.le_refl _), hb.below k (Nat.le_refl _)⟩⟩
  have uzA := DA.sz
  clear HOK HBD
  have HC : Hid (∀ V, Below w.heap.size w V → _) := fun V k => refFoundQ so ao uo bo sn sc an ac tn tc bn bc s a t b V (HRB.out V k).1.1 ss (HRB.out V k).1.2 sa (HRB.out V k).2.1 st (HRB.out V k).2.2 sb mx my
  generalize ecL (tP (itX s a) (itN s)) (cux t b (frN t.length s.length)) (cun t (frN t.length s.length)) = A1 at *
  generalize t.take (frN t.length s.length) = S1 at *
  generalize cun t (frN t.length s.length) = n2 at *
  generalize (frN t.length s.length) = n1 at *
  go_enter Tryz.func18, Tryz.ntmps18
  go_wp2_with (first
    | (go_at_call 22; (with_reducible refine cB.mono ?_); rintro e V1 ⟨rfl, k1⟩; have D1 := DA.below k1 (by first | exact uzA | omega); have uz1 := D1.sz; have b1 := D1.bel; clear q0 q1 p0 p1 cB k1 kA D0 DA AA; obtain ⟨q0, q1, _, _⟩ := box2 D1.x; obtain ⟨p0, p1, _, _⟩ := box2 D1.y; obtain ⟨r0, r1, r2, r3⟩ := box2 D1.r; have cC := HC.out V1 b1)
    | (go_at_call 32; (with_reducible refine cC.mono ?_); rintro e V2 ⟨o1, c1, o2, c2, rfl, f1, f2, k2⟩; have D2 := D1.below k2 uz1; have uz2 := D2.sz; have kq := box_below V2 (.cells #[.slice o1 n1 c1, .slice o2 n2 c2] 30); have D3 := D2.below kq uz2; clear q0 q1 p0 p1 r0 r1 r2 r3; obtain ⟨r0, r1, r2, r3⟩ := box2 D3.r; have g1 := f1.below kq (Nat.le_refl _); have g2 := f2.below kq (Nat.le_refl _)))
  (try simp only [Exit.inBlock, Exit.then])
  refine bodyPost_ret (v := .tuple #[.agg #[.slice o1 n1 c1, .slice o2 n2 c2], .int .i64 (0)]) (by rw [results_cell_tmp rfl]; go_simp) rfl ?_
  exact AnsQ.two g1 g2 D1.bel.size D1.bel.size D3.r (by omega) D3.bel

set_option maxHeartbeats 8000000 in
set_option maxRecDepth 20000 in
theorem rd_37 (so ao uo bo : Option Addr) (sn sc an ac tn tc bn bc : Nat) (s a t b : List Int) (w : World) (hs : Rd w so sn s) (ss : Sl so sn sc) (ha : Rd w ao an a) (sa : Sl ao an ac) (ht : Rd w uo tn t) (st : Sl uo tn tc) (hb : Rd w bo bn b) (sb : Sl bo bn bc) (mx : mayA s a = 0) (my : mayA t b = 0) (het : tal s = tal t) :
    Calls Tryz.prog 18 #[.int .i64 37, .agg #[.slice so sn sc, .slice ao an ac], .agg #[.slice uo tn tc, .slice bo bn bc]] w fun e w' => AnsQ w (fun S A => ∃ ps, Pls (cUp (itX t b)) (itN t) ps ∧ S = (itN t : Int) :: s.drop 1 ∧ A = chA (itX s a) ps (itN t)) 0 e w' := by
  have HOK : true = true ↔ ∀ j, j < 2 → mayA ((fun j => if j = 0 then (s, a) else (t, b)) j).1 ((fun j => if j = 0 then (s, a) else (t, b)) j).2 = 0 := ⟨fun _ j hj => (by
    show mayA (if j = 0 then (s, a) else (t, b)).1 (if j = 0 then (s, a) else (t, b)).2 = 0
    by_cases h : j = 0
    · rw [if_pos h]; exact mx
    · rw [if_neg h]; exact my), fun _ => rfl⟩
  have HBD : bdS 37 2 true = 0 := by decide
  have D0 := du_startQ w so sn sc ao an ac uo tn tc bo bn bc
  have uz := D0.sz
  have kA := box_below (((w.alloc (.cells #[.slice so sn sc, .slice ao an ac] 30)).alloc (.cells #[.slice uo tn tc, .slice bo bn bc] 30)).alloc (.cells #[.slice none 0 0, .slice none 0 0] 30)) (.cells #[.slice so sn sc, .slice ao an ac, .slice uo tn tc, .slice bo bn bc] 30)
  have DA := D0.below kA uz
  have AA := as_two (sc := sc) (ac := ac) (tc := tc) (bc := bc) _ (hs.below D0.bel (Nat.le_refl _)) ss (ha.below D0.bel (Nat.le_refl _)) sa (ht.below D0.bel (Nat.le_refl _)) st (hb.below D0.bel (Nat.le_refl _)) sb
  have cB := refBad7 37 2 _ 2 2 (fun j => if j = 0 then (s, a) else (t, b)) true _ AA (by omega) HOK
  rw [show bdS 37 2 true = 0 from HBD] at cB
  simp only [World.size_alloc] at cB
  obtain ⟨q0, q1, _, _⟩ := box2 D0.x
  obtain ⟨p0, p1, _, _⟩ := box2 D0.y
  have HRB : Hid (∀ V, Below w.heap.size w V → (Rd V so sn s ∧ Rd V ao an a) ∧ (Rd V uo tn t ∧ Rd V bo bn b)) := fun V k => ⟨⟨hs.below k (Nat.le_refl _), ha.below k (Nat.le_refl _)⟩, ⟨ht.below k (Nat.le_refl _), hb.below k (Nat.le_refl _)⟩⟩
  have uzA := DA.sz
  clear HOK HBD
  have HC : Hid (∀ V, Below w.heap.size w V → Calls Tryz.prog 34 #[.int .i64 37, .agg #[.slice so sn sc, .slice ao an ac], .agg #[.slice uo tn tc, .slice bo bn bc]] V fun e w' => AnsQ V (fun S A => ∃ ps, Pls (cUp (itX t b)) (itN t) ps ∧ S = (itN t : Int) :: s.drop 1 ∧ A = chA (itX s a) ps (itN t)) 0 e w') := fun V k => (refSorted7_37 so ao uo bo sn sc an ac tn tc bn bc s a t b V (HRB.out V k).1.1 ss (HRB.out V k).1.2 sa mx (HRB.out V k).2.1 st (HRB.out V k).2.2 sb my).mono fun e w' h => h.1 het
  go_enter Tryz.func18, Tryz.ntmps18
  go_wp2_with (first
    | (go_at_call 22; (with_reducible refine cB.mono ?_); rintro e V1 ⟨rfl, k1⟩; have D1 := DA.below k1 (by first | exact uzA | omega); have uz1 := D1.sz; have b1 := D1.bel; clear q0 q1 p0 p1 cB k1 kA D0 DA AA; obtain ⟨q0, q1, _, _⟩ := box2 D1.x; obtain ⟨p0, p1, _, _⟩ := box2 D1.y; obtain ⟨r0, r1, r2, r3⟩ := box2 D1.r; have cC := HC.out V1 b1)
    | (go_at_call 34; (with_reducible refine cC.mono ?_); rintro e V2 ⟨o1, n1, c1, o2, n2, c2, S1, A1, rfl, f1, f2, hS1, k2⟩; have D2 := D1.below k2 uz1; have uz2 := D2.sz; have kq := box_below V2 (.cells #[.slice o1 n1 c1, .slice o2 n2 c2] 30); have D3 := D2.below kq uz2; clear q0 q1 p0 p1 r0 r1 r2 r3; obtain ⟨r0, r1, r2, r3⟩ := box2 D3.r; have g1 := f1.below kq (Nat.le_refl _); have g2 := f2.below kq (Nat.le_refl _)))
  (try simp only [Exit.inBlock, Exit.then])
  refine bodyPost_ret (v := .tuple #[.agg #[.slice o1 n1 c1, .slice o2 n2 c2], .int .i64 (0)]) (by rw [results_cell_tmp rfl]; go_simp) rfl ?_
  exact (AnsQ.two g1 g2 D1.bel.size D1.bel.size D3.r (by omega) D3.bel).mono fun S A h => by rw [h.1, h.2]; exact hS1

set_option maxHeartbeats 8000000 in
set_option maxRecDepth 20000 in
theorem rd_37no (so ao uo bo : Option Addr) (sn sc an ac tn tc bn bc : Nat) (s a t b : List Int) (w : World) (hs : Rd w so sn s) (ss : Sl so sn sc) (ha : Rd w ao an a) (sa : Sl ao an ac) (ht : Rd w uo tn t) (st : Sl uo tn tc) (hb : Rd w bo bn b) (sb : Sl bo bn bc) (mx : mayA s a = 0) (my : mayA t b = 0) (het : ¬ tal s = tal t) :
    Calls Tryz.prog 18 #[.int .i64 37, .agg #[.slice so sn sc, .slice ao an ac], .agg #[.slice uo tn tc, .slice bo bn bc]] w fun e w' => AnsQ w (fun S A => S = [] ∧ A = []) 11 e w' := by
  have HOK : true = true ↔ ∀ j, j < 2 → mayA ((fun j => if j = 0 then (s, a) else (t, b)) j).1 ((fun j => if j = 0 then (s, a) else (t, b)) j).2 = 0 := ⟨fun _ j hj => (by
    show mayA (if j = 0 then (s, a) else (t, b)).1 (if j = 0 then (s, a) else (t, b)).2 = 0
    by_cases h : j = 0
    · rw [if_pos h]; exact mx
    · rw [if_neg h]; exact my), fun _ => rfl⟩
  have HBD : bdS 37 2 true = 0 := by decide
  have D0 := du_startQ w so sn sc ao an ac uo tn tc bo bn bc
  have uz := D0.sz
  have kA := box_below (((w.alloc (.cells #[.slice so sn sc, .slice ao an ac] 30)).alloc (.cells #[.slice uo tn tc, .slice bo bn bc] 30)).alloc (.cells #[.slice none 0 0, .slice none 0 0] 30)) (.cells #[.slice so sn sc, .slice ao an ac, .slice uo tn tc, .slice bo bn bc] 30)
  have DA := D0.below kA uz
  have AA := as_two (sc := sc) (ac := ac) (tc := tc) (bc := bc) _ (hs.below D0.bel (Nat.le_refl _)) ss (ha.below D0.bel (Nat.le_refl _)) sa (ht.below D0.bel (Nat.le_refl _)) st (hb.below D0.bel (Nat.le_refl _)) sb
  have cB := refBad7 37 2 _ 2 2 (fun j => if j = 0 then (s, a) else (t, b)) true _ AA (by omega) HOK
  rw [show bdS 37 2 true = 0 from HBD] at cB
  simp only [World.size_alloc] at cB
  obtain ⟨q0, q1, _, _⟩ := box2 D0.x
  obtain ⟨p0, p1, _, _⟩ := box2 D0.y
  have HRB : Hid (∀ V, Below w.heap.size w V → (Rd V so sn s ∧ Rd V ao an a) ∧ (Rd V uo tn t ∧ Rd V bo bn b)) := fun V k => ⟨⟨hs.below k (Nat.le_refl _), ha.below k (Nat.le_refl _)⟩, ⟨ht.below k (Nat.le_refl _), hb.below k (Nat.le_refl _)⟩⟩
  have uzA := DA.sz
  clear HOK HBD
  have HC : Hid (∀ V, Below w.heap.size w V → Calls Tryz.prog 34 #[.int .i64 37, .agg #[.slice so sn sc, .slice ao an ac], .agg #[.slice uo tn tc, .slice bo bn bc]] V fun e w' => AnsQ V (fun S A => S = [] ∧ A = []) 11 e w') := fun V k => (refSorted7_37 so ao uo bo sn sc an ac tn tc bn bc s a t b V (HRB.out V k).1.1 ss (HRB.out V k).1.2 sa mx (HRB.out V k).2.1 st (HRB.out V k).2.2 sb my).mono fun e w' h => h.2 het
  go_enter Tryz.func18, Tryz.ntmps18
  go_wp2_with (first
    | (go_at_call 22; (with_reducible refine cB.mono ?_); rintro e V1 ⟨rfl, k1⟩; have D1 := DA.below k1 (by first | exact uzA | omega); have uz1 := D1.sz; have b1 := D1.bel; clear q0 q1 p0 p1 cB k1 kA D0 DA AA; obtain ⟨q0, q1, _, _⟩ := box2 D1.x; obtain ⟨p0, p1, _, _⟩ := box2 D1.y; obtain ⟨r0, r1, r2, r3⟩ := box2 D1.r; have cC := HC.out V1 b1)
    | (go_at_call 34; (with_reducible refine cC.mono ?_); rintro e V2 ⟨o1, n1, c1, o2, n2, c2, S1, A1, rfl, f1, f2, hS1, k2⟩; have D2 := D1.below k2 uz1; have uz2 := D2.sz; have kq := box_below V2 (.cells #[.slice o1 n1 c1, .slice o2 n2 c2] 30); have D3 := D2.below kq uz2; clear q0 q1 p0 p1 r0 r1 r2 r3; obtain ⟨r0, r1, r2, r3⟩ := box2 D3.r; have g1 := f1.below kq (Nat.le_refl _); have g2 := f2.below kq (Nat.le_refl _)))
  (try simp only [Exit.inBlock, Exit.then])
  refine bodyPost_ret (v := .tuple #[.agg #[.slice o1 n1 c1, .slice o2 n2 c2], .int .i64 (11)]) (by rw [results_cell_tmp rfl]; go_simp) rfl ?_
  exact (AnsQ.two g1 g2 D1.bel.size D1.bel.size D3.r (by omega) D3.bel).mono fun S A h => by rw [h.1, h.2]; exact hS1

set_option maxHeartbeats 8000000 in
set_option maxRecDepth 20000 in
theorem rd_38 (so ao uo bo : Option Addr) (sn sc an ac tn tc bn bc : Nat) (s a t b : List Int) (w : World) (hs : Rd w so sn s) (ss : Sl so sn sc) (ha : Rd w ao an a) (sa : Sl ao an ac) (ht : Rd w uo tn t) (st : Sl uo tn tc) (hb : Rd w bo bn b) (sb : Sl bo bn bc) (mx : mayA s a = 0) (my : mayA t b = 0) (het : tal s = tal t) :
    Calls Tryz.prog 18 #[.int .i64 38, .agg #[.slice so sn sc, .slice ao an ac], .agg #[.slice uo tn tc, .slice bo bn bc]] w fun e w' => AnsQ w (fun S A => ∃ ps, Pls (cDn (itX t b)) (itN t) ps ∧ S = (itN t : Int) :: s.drop 1 ∧ A = chA (itX s a) ps (itN t)) 0 e w' := by
  have HOK : true = true ↔ ∀ j, j < 2 → mayA ((fun j => if j = 0 then (s, a) else (t, b)) j).1 ((fun j => if j = 0 then (s, a) else (t, b)) j).2 = 0 := ⟨fun _ j hj => (by
    show mayA (if j = 0 then (s, a) else (t, b)).1 (if j = 0 then (s, a) else (t, b)).2 = 0
    by_cases h : j = 0
    · rw [if_pos h]; exact mx
    · rw [if_neg h]; exact my), fun _ => rfl⟩
  have HBD : bdS 38 2 true = 0 := by decide
  have D0 := du_startQ w so sn sc ao an ac uo tn tc bo bn bc
  have uz := D0.sz
  have kA := box_below (((w.alloc (.cells #[.slice so sn sc, .slice ao an ac] 30)).alloc (.cells #[.slice uo tn tc, .slice bo bn bc] 30)).alloc (.cells #[.slice none 0 0, .slice none 0 0] 30)) (.cells #[.slice so sn sc, .slice ao an ac, .slice uo tn tc, .slice bo bn bc] 30)
  have DA := D0.below kA uz
  have AA := as_two (sc := sc) (ac := ac) (tc := tc) (bc := bc) _ (hs.below D0.bel (Nat.le_refl _)) ss (ha.below D0.bel (Nat.le_refl _)) sa (ht.below D0.bel (Nat.le_refl _)) st (hb.below D0.bel (Nat.le_refl _)) sb
  have cB := refBad7 38 2 _ 2 2 (fun j => if j = 0 then (s, a) else (t, b)) true _ AA (by omega) HOK
  rw [show bdS 38 2 true = 0 from HBD] at cB
  simp only [World.size_alloc] at cB
  obtain ⟨q0, q1, _, _⟩ := box2 D0.x
  obtain ⟨p0, p1, _, _⟩ := box2 D0.y
  have HRB : Hid (∀ V, Below w.heap.size w V → (Rd V so sn s ∧ Rd V ao an a) ∧ (Rd V uo tn t ∧ Rd V bo bn b)) := fun V k => ⟨⟨hs.below k (Nat.le_refl _), ha.below k (Nat.le_refl _)⟩, ⟨ht.below k (Nat.le_refl _), hb.below k (Nat.le_refl _)⟩⟩
  have uzA := DA.sz
  clear HOK HBD
  have HC : Hid (∀ V, Below w.heap.size w V → Calls Tryz.prog 34 #[.int .i64 38, .agg #[.slice so sn sc, .slice ao an ac], .agg #[.slice uo tn tc, .slice bo bn bc]] V fun e w' => AnsQ V (fun S A => ∃ ps, Pls (cDn (itX t b)) (itN t) ps ∧ S = (itN t : Int) :: s.drop 1 ∧ A = chA (itX s a) ps (itN t)) 0 e w') := fun V k => (refSorted7_38 so ao uo bo sn sc an ac tn tc bn bc s a t b V (HRB.out V k).1.1 ss (HRB.out V k).1.2 sa mx (HRB.out V k).2.1 st (HRB.out V k).2.2 sb my).mono fun e w' h => h.1 het
  go_enter Tryz.func18, Tryz.ntmps18
  go_wp2_with (first
    | (go_at_call 22; (with_reducible refine cB.mono ?_); rintro e V1 ⟨rfl, k1⟩; have D1 := DA.below k1 (by first | exact uzA | omega); have uz1 := D1.sz; have b1 := D1.bel; clear q0 q1 p0 p1 cB k1 kA D0 DA AA; obtain ⟨q0, q1, _, _⟩ := box2 D1.x; obtain ⟨p0, p1, _, _⟩ := box2 D1.y; obtain ⟨r0, r1, r2, r3⟩ := box2 D1.r; have cC := HC.out V1 b1)
    | (go_at_call 34; (with_reducible refine cC.mono ?_); rintro e V2 ⟨o1, n1, c1, o2, n2, c2, S1, A1, rfl, f1, f2, hS1, k2⟩; have D2 := D1.below k2 uz1; have uz2 := D2.sz; have kq := box_below V2 (.cells #[.slice o1 n1 c1, .slice o2 n2 c2] 30); have D3 := D2.below kq uz2; clear q0 q1 p0 p1 r0 r1 r2 r3; obtain ⟨r0, r1, r2, r3⟩ := box2 D3.r; have g1 := f1.below kq (Nat.le_refl _); have g2 := f2.below kq (Nat.le_refl _)))
  (try simp only [Exit.inBlock, Exit.then])
  refine bodyPost_ret (v := .tuple #[.agg #[.slice o1 n1 c1, .slice o2 n2 c2], .int .i64 (0)]) (by rw [results_cell_tmp rfl]; go_simp) rfl ?_
  exact (AnsQ.two g1 g2 D1.bel.size D1.bel.size D3.r (by omega) D3.bel).mono fun S A h => by rw [h.1, h.2]; exact hS1

set_option maxHeartbeats 8000000 in
set_option maxRecDepth 20000 in
theorem rd_38no (so ao uo bo : Option Addr) (sn sc an ac tn tc bn bc : Nat) (s a t b : List Int) (w : World) (hs : Rd w so sn s) (ss : Sl so sn sc) (ha : Rd w ao an a) (sa : Sl ao an ac) (ht : Rd w uo tn t) (st : Sl uo tn tc) (hb : Rd w bo bn b) (sb : Sl bo bn bc) (mx : mayA s a = 0) (my : mayA t b = 0) (het : ¬ tal s = tal t) :
    Calls Tryz.prog 18 #[.int .i64 38, .agg #[.slice so sn sc, .slice ao an ac], .agg #[.slice uo tn tc, .slice bo bn bc]] w fun e w' => AnsQ w (fun S A => S = [] ∧ A = []) 11 e w' := by
  have HOK : true = true ↔ ∀ j, j < 2 → mayA ((fun j => if j = 0 then (s, a) else (t, b)) j).1 ((fun j => if j = 0 then (s, a) else (t, b)) j).2 = 0 := ⟨fun _ j hj => (by
    show mayA (if j = 0 then (s, a) else (t, b)).1 (if j = 0 then (s, a) else (t, b)).2 = 0
    by_cases h : j = 0
    · rw [if_pos h]; exact mx
    · rw [if_neg h]; exact my), fun _ => rfl⟩
  have HBD : bdS 38 2 true = 0 := by decide
  have D0 := du_startQ w so sn sc ao an ac uo tn tc bo bn bc
  have uz := D0.sz
  have kA := box_below (((w.alloc (.cells #[.slice so sn sc, .slice ao an ac] 30)).alloc (.cells #[.slice uo tn tc, .slice bo bn bc] 30)).alloc (.cells #[.slice none 0 0, .slice none 0 0] 30)) (.cells #[.slice so sn sc, .slice ao an ac, .slice uo tn tc, .slice bo bn bc] 30)
  have DA := D0.below kA uz
  have AA := as_two (sc := sc) (ac := ac) (tc := tc) (bc := bc) _ (hs.below D0.bel (Nat.le_refl _)) ss (ha.below D0.bel (Nat.le_refl _)) sa (ht.below D0.bel (Nat.le_refl _)) st (hb.below D0.bel (Nat.le_refl _)) sb
  have cB := refBad7 38 2 _ 2 2 (fun j => if j = 0 then (s, a) else (t, b)) true _ AA (by omega) HOK
  rw [show bdS 38 2 true = 0 from HBD] at cB
  simp only [World.size_alloc] at cB
  obtain ⟨q0, q1, _, _⟩ := box2 D0.x
  obtain ⟨p0, p1, _, _⟩ := box2 D0.y
  have HRB : Hid (∀ V, Below w.heap.size w V → (Rd V so sn s ∧ Rd V ao an a) ∧ (Rd V uo tn t ∧ Rd V bo bn b)) := fun V k => ⟨⟨hs.below k (Nat.le_refl _), ha.below k (Nat.le_refl _)⟩, ⟨ht.below k (Nat.le_refl _), hb.below k (Nat.le_refl _)⟩⟩
  have uzA := DA.sz
  clear HOK HBD
  have HC : Hid (∀ V, Below w.heap.size w V → Calls Tryz.prog 34 #[.int .i64 38, .agg #[.slice so sn sc, .slice ao an ac], .agg #[.slice uo tn tc, .slice bo bn bc]] V fun e w' => AnsQ V (fun S A => S = [] ∧ A = []) 11 e w') := fun V k => (refSorted7_38 so ao uo bo sn sc an ac tn tc bn bc s a t b V (HRB.out V k).1.1 ss (HRB.out V k).1.2 sa mx (HRB.out V k).2.1 st (HRB.out V k).2.2 sb my).mono fun e w' h => h.2 het
  go_enter Tryz.func18, Tryz.ntmps18
  go_wp2_with (first
    | (go_at_call 22; (with_reducible refine cB.mono ?_); rintro e V1 ⟨rfl, k1⟩; have D1 := DA.below k1 (by first | exact uzA | omega); have uz1 := D1.sz; have b1 := D1.bel; clear q0 q1 p0 p1 cB k1 kA D0 DA AA; obtain ⟨q0, q1, _, _⟩ := box2 D1.x; obtain ⟨p0, p1, _, _⟩ := box2 D1.y; obtain ⟨r0, r1, r2, r3⟩ := box2 D1.r; have cC := HC.out V1 b1)
    | (go_at_call 34; (with_reducible refine cC.mono ?_); rintro e V2 ⟨o1, n1, c1, o2, n2, c2, S1, A1, rfl, f1, f2, hS1, k2⟩; have D2 := D1.below k2 uz1; have uz2 := D2.sz; have kq := box_below V2 (.cells #[.slice o1 n1 c1, .slice o2 n2 c2] 30); have D3 := D2.below kq uz2; clear q0 q1 p0 p1 r0 r1 r2 r3; obtain ⟨r0, r1, r2, r3⟩ := box2 D3.r; have g1 := f1.below kq (Nat.le_refl _); have g2 := f2.below kq (Nat.le_refl _)))
  (try simp only [Exit.inBlock, Exit.then])
  refine bodyPost_ret (v := .tuple #[.agg #[.slice o1 n1 c1, .slice o2 n2 c2], .int .i64 (11)]) (by rw [results_cell_tmp rfl]; go_simp) rfl ?_
  exact (AnsQ.two g1 g2 D1.bel.size D1.bel.size D3.r (by omega) D3.bel).mono fun S A h => by rw [h.1, h.2]; exact hS1

set_option maxHeartbeats 8000000 in
set_option maxRecDepth 20000 in
theorem rd_19 (so ao uo bo : Option Addr) (sn sc an ac tn tc bn bc : Nat) (s a t b : List Int) (w : World) (hs : Rd w so sn s) (ss : Sl so sn sc) (ha : Rd w ao an a) (sa : Sl ao an ac) (ht : Rd w uo tn t) (st : Sl uo tn tc) (hb : Rd w bo bn b) (sb : Sl bo bn bc) (mx : mayA s a = 0) (my : mayA t b = 0) :
    Calls Tryz.prog 18 #[.int .i64 19, .agg #[.slice so sn sc, .slice ao an ac], .agg #[.slice uo tn tc, .slice bo bn bc]] w fun e w' => AnsQ w (fun S A => S = [] ∧ A = [if eqA s a t b then 1 else 0]) 0 e w' := by
  have HOK : true = true ↔ ∀ j, j < 2 → mayA ((fun j => if j = 0 then (s, a) else (t, b)) j).1 ((fun j => if j = 0 then (s, a) else (t, b)) j).2 = 0 := ⟨fun _ j hj => (by
    show mayA (if j = 0 then (s, a) else (t, b)).1 (if j = 0 then (s, a) else (t, b)).2 = 0
    by_cases h : j = 0
    · rw [if_pos h]; exact mx
    · rw [if_neg h]; exact my), fun _ => rfl⟩
  have HBD : bdS 19 2 true = 0 := by decide
  have D0 := du_startQ w so sn sc ao an ac uo tn tc bo bn bc
  have uz := D0.sz
  have kA := box_below (((w.alloc (.cells #[.slice so sn sc, .slice ao an ac] 30)).alloc (.cells #[.slice uo tn tc, .slice bo bn bc] 30)).alloc (.cells #[.slice none 0 0, .slice none 0 0] 30)) (.cells #[.slice so sn sc, .slice ao an ac, .slice uo tn tc, .slice bo bn bc] 30)
  have DA := D0.below kA uz
  have AA := as_two (sc := sc) (ac := ac) (tc := tc) (bc := bc) _ (hs.below D0.bel (Nat.le_refl _)) ss (ha.below D0.bel (Nat.le_refl _)) sa (ht.below D0.bel (Nat.le_refl _)) st (hb.below D0.bel (Nat.le_refl _)) sb
  have cB := refBad7 19 2 _ 2 2 (fun j => if j = 0 then (s, a) else (t, b)) true _ AA (by omega) HOK
  rw [show bdS 19 2 true = 0 from HBD] at cB
  simp only [World.size_alloc] at cB
  obtain ⟨q0, q1, _, _⟩ := box2 D0.x
  obtain ⟨p0, p1, _, _⟩ := box2 D0.y
  have HRB : Hid (∀ V, Below w.heap.size w V → (Rd V so sn s ∧ Rd V ao an a) ∧ (Rd V uo tn t ∧ Rd V bo bn b)) := fun V k => ⟨⟨hs.below k (Nat.le_refl _), ha.below k (Nat.le_refl _)⟩, ⟨ht.below k (Nat.le_refl _), hb.below k (Nat.le_refl _)⟩⟩
  have uzA := DA.sz
  clear HOK HBD
  have HC : Hid (∀ V, Below w.heap.size w V → Calls Tryz.prog 36 #[.agg #[.slice so sn sc, .slice ao an ac], .agg #[.slice uo tn tc, .slice bo bn bc]] V fun e w' => e = .returned (.bool (eqA s a t b)) ∧ Below V.heap.size V w') := fun V k => refSame_any so ao uo bo sn sc an ac tn tc bn bc s a t b V (HRB.out V k).1.1 (HRB.out V k).1.2 (HRB.out V k).2.1 (HRB.out V k).2.2
  generalize eqA s a t b = q at *
  have cO := fun V => refOne7 q V
  obtain ⟨v, hv⟩ : ∃ v : Int, (if q = true then (1 : Int) else 0) = v := ⟨_, rfl⟩
  have vb : -9223372036854775808 ≤ v ∧ v ≤ 9223372036854775807 := by rw [← hv]; split <;> omega
  rw [hv] at cO ⊢
  have cS := fun V => refScalar_any v V vb.1 vb.2
  clear hv
  go_enter Tryz.func18, Tryz.ntmps18
  go_wp2_with (first
    | (go_at_call 22; (with_reducible refine cB.mono ?_); rintro e V1 ⟨rfl, k1⟩; have D1 := DA.below k1 (by first | exact uzA | omega); have uz1 := D1.sz; have b1 := D1.bel; clear q0 q1 p0 p1 cB k1 kA D0 DA AA; obtain ⟨q0, q1, _, _⟩ := box2 D1.x; obtain ⟨p0, p1, _, _⟩ := box2 D1.y; obtain ⟨r0, r1, r2, r3⟩ := box2 D1.r; have cC := HC.out V1 b1)
    | (go_at_call 36; (with_reducible refine cC.mono ?_); rintro e V2 ⟨rfl, k2⟩; have D2 := D1.below k2 uz1; have uz2 := D2.sz)
    | (go_at_call 26; (with_reducible refine (cO _).mono ?_); rintro e V3 ⟨rfl, hV3⟩; rw [hV3]; clear hV3)
    | (go_at_call 35; (with_reducible refine (cS _).mono ?_); rintro e V4 ⟨o2, c2, rfl, f2, k4⟩; have D4 := D2.below k4 uz2; clear q0 q1 p0 p1 r0 r1 r2 r3; obtain ⟨r0, r1, r2, r3⟩ := box2 D4.r))
  (try simp only [Exit.inBlock, Exit.then])
  refine bodyPost_ret (v := .tuple #[.agg #[.slice none 0 0, .slice o2 1 c2], .int .i64 0]) (by rw [results_cell_tmp rfl]; go_simp) rfl ?_
  exact AnsQ.two (Ft.nil _ _ _) f2 (Nat.le_refl _) D2.bel.size D4.r (by omega) D4.bel

set_option maxHeartbeats 8000000 in
set_option maxRecDepth 20000 in
theorem rd_18 (so ao uo bo : Option Addr) (sn sc an ac tn tc bn bc : Nat) (s a t b : List Int) (w : World) (hs : Rd w so sn s) (ss : Sl so sn sc) (ha : Rd w ao an a) (sa : Sl ao an ac) (ht : Rd w uo tn t) (st : Sl uo tn tc) (hb : Rd w bo bn b) (sb : Sl bo bn bc) (mx : mayA s a = 0) (my : mayA t b = 0) :
    Calls Tryz.prog 18 #[.int .i64 18, .agg #[.slice so sn sc, .slice ao an ac], .agg #[.slice uo tn tc, .slice bo bn bc]] w fun e w' => AnsQ w (fun S A => S = ((flt (woB (itX s a) (itX t b) (itN t)) (itN s)).length : Int) :: s.drop 1 ∧ A = chA (itX s a) (flt (woB (itX s a) (itX t b) (itN t)) (itN s)) (flt (woB (itX s a) (itX t b) (itN t)) (itN s)).length) 0 e w' := by
  have HOK : true = true ↔ ∀ j, j < 2 → mayA ((fun j => if j = 0 then (s, a) else (t, b)) j).1 ((fun j => if j = 0 then (s, a) else (t, b)) j).2 = 0 := ⟨fun _ j hj => (by
    show mayA (if j = 0 then (s, a) else (t, b)).1 (if j = 0 then (s, a) else (t, b)).2 = 0
    by_cases h : j = 0
    · rw [if_pos h]; exact mx
    · rw [if_neg h]; exact my), fun _ => rfl⟩
  have HBD : bdS 18 2 true = 0 := by decide
  have D0 := du_startQ w so sn sc ao an ac uo tn tc bo bn bc
  have uz := D0.sz
  have kA := box_below (((w.alloc (.cells #[.slice so sn sc, .slice ao an ac] 30)).alloc (.cells #[.slice uo tn tc, .slice bo bn bc] 30)).alloc (.cells #[.slice none 0 0, .slice none 0 0] 30)) (.cells #[.slice so sn sc, .slice ao an ac, .slice uo tn tc, .slice bo bn bc] 30)
  have DA := D0.below kA uz
  have AA := as_two (sc := sc) (ac := ac) (tc := tc) (bc := bc) _ (hs.below D0.bel (Nat.le_refl _)) ss (ha.below D0.bel (Nat.le_refl _)) sa (ht.below D0.bel (Nat.le_refl _)) st (hb.below D0.bel (Nat.le_refl _)) sb
  have cB := refBad7 18 2 _ 2 2 (fun j => if j = 0 then (s, a) else (t, b)) true _ AA (by omega) HOK
  rw [show bdS 18 2 true = 0 from HBD] at cB
  simp only [World.size_alloc] at cB
  obtain ⟨q0, q1, _, _⟩ := box2 D0.x
  obtain ⟨p0, p1, _, _⟩ := box2 D0.y
  have HRB : Hid (∀ V, Below w.heap.size w V → (Rd V so sn s ∧ Rd V ao an a) ∧ (Rd V uo tn t ∧ Rd V bo bn b)) := fun V k => ⟨⟨hs.below k (Nat.le_refl _), ha.below k (Nat.le_refl _)⟩, ⟨ht.below k (Nat.le_refl _), hb.below k (Nat.le_refl _)⟩⟩
  have uzA := DA.sz
  clear HOK HBD
  have hn4 : itN s ≤ 4096 := by
    have := itN_tal (mayA_zero mx).1
    have := tal_bd (mayA_zero mx).1
    omega
  have hm4 : itN t ≤ 4096 := by
    have := itN_tal (mayA_zero my).1
    have := tal_bd (mayA_zero my).1
    omega
  have HLX : Hid (∀ V, Below w.heap.size w V → Calls Tryz.prog 23 #[.agg #[.slice so sn sc, .slice ao an ac]] V fun e w' => ∃ go gc, e = .returned (.slice go (itN s) gc) ∧ Gv w' V.heap.size go (itN s) gc (itX s a) ∧ Below V.heap.size V w') := fun V k => refItems7_any so ao sn sc an ac s a V (HRB.out V k).1.1 ss (HRB.out V k).1.2 sa mx
  have HLY : Hid (∀ V, Below w.heap.size w V → Calls Tryz.prog 23 #[.agg #[.slice uo tn tc, .slice bo bn bc]] V fun e w' => ∃ go gc, e = .returned (.slice go (itN t) gc) ∧ Gv w' V.heap.size go (itN t) gc (itX t b) ∧ Below V.heap.size V w') := fun V k => refItems7_any uo bo tn tc bn bc t b V (HRB.out V k).2.1 st (HRB.out V k).2.2 sb my
  have HG : Hid (∀ V po m pc (ps : List Int), Below w.heap.size w V → Rd V po m ps → inN (itN s) ps → m ≤ 5000 → Calls Tryz.prog 24 #[.agg #[.slice so sn sc, .slice ao an ac], .slice po m pc] V fun e w' => ∃ o1 n1 c1 o2 n2 c2, e = .returned (.agg #[.slice o1 n1 c1, .slice o2 n2 c2]) ∧ Ft 3 w' V.heap.size o1 n1 c1 ((m : Int) :: s.drop 1) ∧ Ft 2 w' V.heap.size o2 n2 c2 (chA (itX s a) ps m) ∧ Below V.heap.size V w') := fun V po m pc ps k hr hi hm => refGathered7 so ao sn sc an ac s a po m pc ps V (HRB.out V k).1.1 ss (HRB.out V k).1.2 sa mx hr hi hm
  generalize itX s a = xs at *
  generalize itX t b = zs at *
  generalize s.drop 1 = ds at *
  generalize itN s = n at *
  generalize itN t = m at *
  go_enter Tryz.func18, Tryz.ntmps18
  go_wp2_with (first
    | (go_at_call 22; (with_reducible refine cB.mono ?_); rintro e V1 ⟨rfl, k1⟩; have D1 := DA.below k1 (by first | exact uzA | omega); have uz1 := D1.sz; have b1 := D1.bel; clear q0 q1 p0 p1 cB k1 kA D0 DA AA; obtain ⟨q0, q1, _, _⟩ := box2 D1.x; obtain ⟨p0, p1, _, _⟩ := box2 D1.y; obtain ⟨r0, r1, r2, r3⟩ := box2 D1.r))
  have HD1 : Hid (DuQ w V1 so sn sc ao an ac uo tn tc bo bn bc) := D1
  have AL : ∀ V, Below V1.heap.size V1 V → V.cell? ⟨w.heap.size, 0, none⟩ = some (.slice so sn sc) ∧ V.cell? ⟨w.heap.size, 1, none⟩ = some (.slice ao an ac) ∧ V.cell? ⟨w.heap.size + 1, 0, none⟩ = some (.slice uo tn tc) ∧ V.cell? ⟨w.heap.size + 1, 1, none⟩ = some (.slice bo bn bc) ∧ Below V1.heap.size V1 V := fun V kk => by
    have D := HD1.out.below kk uz1
    obtain ⟨a0, a1, _, _⟩ := box2 D.x
    obtain ⟨c0, c1, _, _⟩ := box2 D.y
    exact ⟨a0, a1, c0, c1, kk⟩
  have cX : ∀ V, Below V1.heap.size V1 V → Calls Tryz.prog 23 #[.agg #[.slice so sn sc, .slice ao an ac]] V fun e w' => ∃ go gc, e = .returned (.slice go n gc) ∧ AsQ w' go n xs ∧ Below V1.heap.size V1 w' := fun V kk => (HLX.out V (b1.trans (kk.mono b1.size))).mono fun e w' ⟨go, gc, h1, h2, h3⟩ => ⟨go, gc, h1, gv_as h2 (by omega), kk.trans (h3.mono kk.size)⟩
  have cY : ∀ V lo, Below V1.heap.size V1 V → AsQ V lo n xs → Calls Tryz.prog 23 #[.agg #[.slice uo tn tc, .slice bo bn bc]] V fun e w' => ∃ go gc, e = .returned (.slice go m gc) ∧ AsQ w' go m zs ∧ AsQ w' lo n xs ∧ Below V1.heap.size V1 w' := fun V lo kk hA => (HLY.out V (b1.trans (kk.mono b1.size))).mono fun e w' ⟨go, gc, h1, h2, h3⟩ => ⟨go, gc, h1, gv_as h2 (by omega), hA.below h3 (Nat.le_refl _), kk.trans (h3.mono kk.size)⟩
  have B1 : Below V1.heap.size V1 V1 := Below.refl _ _
  clear q0 q1 p0 p1 r0 r1 r2 r3 D1
  go_region_held3 (fun V => V.cell? ⟨w.heap.size, 0, none⟩ = some (.slice so sn sc) ∧ V.cell? ⟨w.heap.size, 1, none⟩ = some (.slice ao an ac) ∧ V.cell? ⟨w.heap.size + 1, 0, none⟩ = some (.slice uo tn tc) ∧ V.cell? ⟨w.heap.size + 1, 1, none⟩ = some (.slice bo bn bc) ∧ Below V1.heap.size V1 V) (first | exact AL _ (by assumption) | exact AL _ (Below.drew (by assumption)))
    (first
      | (go_at_call 23; (with_reducible refine (cX _ (‹_ ∧ _ ∧ _ ∧ _ ∧ Below V1.heap.size V1 _›).2.2.2.2).mono ?_); rintro e V2 ⟨lo, lc, rfl, A2, k2⟩)
      | (go_at_call 23; (with_reducible refine (cY _ lo (‹_ ∧ _ ∧ _ ∧ _ ∧ Below V1.heap.size V1 _›).2.2.2.2 A2).mono ?_); rintro e V3 ⟨ro, rc, rfl, A3, A3', k3⟩))
  have D3 := HD1.out.below k3 uz1
  have uz3 := D3.sz
  have HD3 : Hid (DuQ w V3 so sn sc ao an ac uo tn tc bo bn bc) := D3
  have b3 := D3.bel
  clear AL cX cY B1 k2 k3 D3 A2 b1
  go_wp2
  go_loopw [16, 19] (fun l i V => ∃ (k mm : Nat) (o : Option Addr) (c : Nat), k ≤ n ∧ mm ≤ k ∧ l = .slice o mm c ∧ i = .int .i64 (k : Nat) ∧ Ft 3 V V3.heap.size o mm c (flt (woB xs zs m) k) ∧ Below V3.heap.size V3 V) (fun _ i _ => n - (intOf i).toNat)
  case atStart => exact ⟨0, 0, none, 0, Nat.zero_le _, Nat.le_refl _, rfl, rfl, Ft.nil _ _ _, (by first | exact Below.refl _ _ | exact (Below.refl _ _).drew)⟩
  case round =>
    obtain ⟨k, mm, o, c, hk, hmm, rfl, rfl, F, BV⟩ := hrel
    by_cases hlt : k < n
    · have t1 : decide ((k : Int) < (n : Int)) = true := by simp; omega
      have t2 : (k : Int) < (n : Int) := by omega
      have AX := A3'.below BV (Nat.le_refl _)
      have AZ := A3.below BV (Nat.le_refl _)
      obtain ⟨bb, off, rfl, hb1, hc⟩ := AX.cells (by omega)
      obtain ⟨eo, en, ec, fo, fn, fc, q0, q1, r0, _, r1, _⟩ := hc k hlt
      have cF := refFirst7_any ro m rc zs eo fo en ec fn fc (xs k) wr AZ (by omega) r0 r1
      have hN := flt_succ (woB xs zs m) k
      have hle := fsq_le zs m (xs k)
      have hwo : woB xs zs m k = !decide (fsq zs m (xs k) < m) := rfl
      rw [hwo] at hN
      clear hc r0 r1 AX AZ hwo
      by_cases he : fsq zs m (xs k) = m
      · rw [he] at cF hN
        rw [show (!decide (m < m)) = true by simp, if_pos rfl] at hN
        have HN : Hid (flt (woB xs zs m) (k + 1) = flt (woB xs zs m) k ++ [(k : Int)]) := hN
        have tq : ((m : Int) == (m : Int)) = true := by simp
        clear hN he hle
        go_wp2_with (first
          | (go_at_call 27; (with_reducible refine cF.mono ?_); rintro e V5 ⟨rfl, k5⟩; have s0 := BV.size; have s1 := k5.size; have F1 := F.below k5 (Nat.le_refl _); have kb := box_below V5 (.cells #[.int .i64 (k : Int)] 3); have F2 := F1.below kb (Nat.le_refl _); have L2 := ft_new 3 V5 [(k : Int)] (by simp) (num1 (by omega) (by omega)); have hB2 : V3.heap.size ≤ (V5.alloc (.cells #[.int .i64 (k : Int)] 3)).heap.size := (by simp; omega))
          | (at_builtin; refine wpList_joinT tyI rfl _ _ rfl V3.heap.size o (some ⟨V5.heap.size, 0, none⟩) mm c 1 1 _ [(k : Int)] rfl rfl F2 L2.rd L2.sl (by omega) hB2 ?_; intro co3 cc3 W7 f7 b7))
        go_roundw
        case measure => simp [intOf]; omega
        case rel =>
          refine ⟨k + 1, mm + 1, co3, cc3, by omega, by omega, rfl, by go_num, ?_, (BV.trans (k5.mono s0)).trans ((kb.mono (Nat.le_trans s0 s1)).trans b7)⟩
          rw [HN.out]
          exact f7
      · rw [show (!decide (fsq zs m (xs k) < m)) = false by simp; omega, if_neg (by decide), List.append_nil] at hN
        have HN : Hid (flt (woB xs zs m) (k + 1) = flt (woB xs zs m) k) := hN
        generalize fsq zs m (xs k) = r at *
        have tq : ((r : Int) == (m : Int)) = false := by simp; omega
        clear hN he
        go_wp2_with (first
          | (go_at_call 27; (with_reducible refine cF.mono ?_); rintro e V5 ⟨rfl, k5⟩; have s0 := BV.size; have F1 := F.below k5 (Nat.le_refl _)))
        go_roundw
        case measure => simp [intOf]; omega
        case rel =>
          refine ⟨k + 1, mm, o, c, by omega, by omega, rfl, by go_num, ?_, BV.trans (k5.mono s0)⟩
          rw [HN.out]
          exact F1
    · obtain rfl : k = n := by omega
      have t1 : decide ((k : Int) < (k : Int)) = false := by simp
      have D4 := HD3.out.below BV uz3
      have uz4 := D4.sz
      have cG := HG.out wr o mm c _ D4.bel F.rd (flt_in _ _) (by omega)
      have HML : Hid ((flt (woB xs zs m) k).length = mm) := F.rd.len
      obtain ⟨q0, q1, _, _⟩ := box2 D4.x
      go_wp2_with (first
        | (go_at_call 24; (with_reducible refine cG.mono ?_); rintro e V6 ⟨o1, n1, c1, o2, n2, c2, rfl, f1, f2, k6⟩; have D6 := D4.below k6 uz4; have uz6 := D6.sz; have kq := box_below V6 (.cells #[.slice o1 n1 c1, .slice o2 n2 c2] 30); have D7 := D6.below kq uz6; obtain ⟨r0, r1, r2, r3⟩ := box2 D7.r; have g1 := f1.below kq (Nat.le_refl _); have g2 := f2.below kq (Nat.le_refl _)))
      (try simp only [Exit.inBlock, Exit.then])
      refine bodyPost_ret (v := .tuple #[.agg #[.slice o1 n1 c1, .slice o2 n2 c2], .int .i64 0]) (by rw [results_cell_tmp rfl]; go_simp) rfl ?_
      have e := AnsQ.two (E := 0) g1 g2 D4.bel.size D4.bel.size D7.r (by omega) D7.bel
      rw [← HML.out] at e
      exact e
end Go.Proofs.YtmepcenbaohcoaaGreat
