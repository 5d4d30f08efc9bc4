
/- The document's answers for package seek: Monad. -/

import Derived.Test.YtmepcenbaohcoaaGreatRSk

import Derived.Test.YtmepcenbaohcoaaGreatRSf

namespace Go.Proofs.YtmepcenbaohcoaaGreat

open Go.RowKit

set_option linter.unusedVariables false

theorem as_one {so ao : Option Addr} {sn sc an ac : Nat} {s a : List Int} (W : World) (hs : Rd W so sn s) (ss : Sl so sn sc) (ha : Rd W ao an a) (sa : Sl ao an ac) : AsQ (W.alloc (.cells #[.slice so sn sc, .slice ao an ac] 30)) (some ⟨W.heap.size, 0, none⟩) 1 (fun _ => (s, a)) := by
  have k := box_below W (.cells #[.slice so sn sc, .slice ao an ac] 30)
  obtain ⟨x0, x1, _, _⟩ := box2 (allocNew W (.cells #[.slice so sn sc, .slice ao an ac] 30))
  refine ⟨by omega, fun _ => ⟨W.heap.size, 0, rfl, by simp, fun j hj => ?_⟩⟩
  obtain rfl : j = 0 := by omega
  exact ⟨so, sn, sc, ao, an, ac, x0, x1, hs.below k (Nat.le_refl _), ss, ha.below k (Nat.le_refl _), sa⟩

set_option maxHeartbeats 4000000 in
theorem rm_bad (O E : Int) (ok : Bool) (so ao : Option Addr) (sn sc an ac : Nat) (s a : List Int) (w : World) (hs : Rd w so sn s) (ss : Sl so sn sc) (ha : Rd w ao an a) (sa : Sl ao an ac) (HOK : ok = true ↔ ∀ j, j < 1 → mayA s a = 0) (HBD : bdS O 1 ok = E) (hE : E ≠ 0) :
    Calls Tryz.prog 17 #[.int .i64 O, .agg #[.slice so sn sc, .slice ao an ac]] w fun e w' => AnsQ w (fun S A => S = [] ∧ A = []) E e w' := by
  have U0 := un_startQ w so sn sc ao an ac
  have uz := U0.sz
  have kA := box_below ((w.alloc (.cells #[.slice so sn sc, .slice ao an ac] 30)).alloc (.cells #[.slice none 0 0, .slice none 0 0] 30)) (.cells #[.slice so sn sc, .slice ao an ac] 30)
  have UA := U0.below kA uz
  have AA := as_one (sc := sc) (ac := ac) _ (hs.below U0.bel (Nat.le_refl _)) ss (ha.below U0.bel (Nat.le_refl _)) sa
  have cB := refBad7 O 1 _ 1 1 (fun _ => (s, a)) ok _ AA (by omega) HOK
  rw [show bdS O 1 ok = E from HBD] at cB
  simp only [World.size_alloc] at cB
  obtain ⟨q0, q1, _, _⟩ := box2 U0.x
  have HRB : Hid (∀ V, Below w.heap.size w V → Rd V so sn s ∧ Rd V ao an a) := fun V k => ⟨hs.below k (Nat.le_refl _), ha.below k (Nat.le_refl _)⟩
  have uzA := UA.sz
  have te : (E != 0) = true := by simpa using hE
  have te2 : (E == 0) = false := by simpa using hE
  clear HOK HBD hE
  go_enter Tryz.func17, Tryz.ntmps17
  go_wp2_with (first | (go_at_call 22; (with_reducible refine cB.mono ?_); rintro e V1 ⟨rfl, k1⟩; have U1 := UA.below k1 (by first | exact uzA | omega); have uz1 := U1.sz; clear q0 q1 cB k1 kA U0 UA AA; obtain ⟨q0, q1, _, _⟩ := box2 U1.x; obtain ⟨r0, r1, r2, r3⟩ := box2 U1.r))
  (try simp only [Exit.inBlock, Exit.then])
  refine bodyPost_ret (v := .tuple #[.agg #[.slice none 0 0, .slice none 0 0], .int .i64 E]) (by rw [results_cell_tmp rfl]; go_simp) rfl ?_
  exact AnsQ.nil (by omega) U1.bel

set_option maxHeartbeats 8000000 in
set_option maxRecDepth 20000 in
theorem rm_37 (so ao : Option Addr) (sn sc an ac : Nat) (s a : List Int) (w : World) (hs : Rd w so sn s) (ss : Sl so sn sc) (ha : Rd w ao an a) (sa : Sl ao an ac) (mx : mayA s a = 0) :
    Calls Tryz.prog 17 #[.int .i64 37, .agg #[.slice so sn sc, .slice ao an ac]] w fun e w' => AnsQ w (fun S A => ∃ ps, Pls (cUp (itX s a)) (itN s) ps ∧ S = [(itN s : Int)] ∧ A = ps) 0 e w' := by
  have hn4 : itN s ≤ 4096 := by
    have := itN_tal (mayA_zero mx).1
    have := tal_bd (mayA_zero mx).1
    omega
  have HOK : true = true ↔ ∀ j, j < 1 → mayA s a = 0 := ⟨fun _ _ _ => mx, fun _ => rfl⟩
  have HBD : bdS 37 1 true = 0 := by decide
  have U0 := un_startQ w so sn sc ao an ac
  have uz := U0.sz
  have kA := box_below ((w.alloc (.cells #[.slice so sn sc, .slice ao an ac] 30)).alloc (.cells #[.slice none 0 0, .slice none 0 0] 30)) (.cells #[.slice so sn sc, .slice ao an ac] 30)
  have UA := U0.below kA uz
  have AA := as_one (sc := sc) (ac := ac) _ (hs.below U0.bel (Nat.le_refl _)) ss (ha.below U0.bel (Nat.le_refl _)) sa
  have cB := refBad7 37 1 _ 1 1 (fun _ => (s, a)) true _ AA (by omega) HOK
  rw [show bdS 37 1 true = 0 from HBD] at cB
  simp only [World.size_alloc] at cB
  obtain ⟨q0, q1, _, _⟩ := box2 U0.x
  have HRB : Hid (∀ V, Below w.heap.size w V → Rd V so sn s ∧ Rd V ao an a) := fun V k => ⟨hs.below k (Nat.le_refl _), ha.below k (Nat.le_refl _)⟩
  have uzA := UA.sz
  have HIT : Hid (∀ V, Below w.heap.size w V → Calls Tryz.prog 23 #[.agg #[.slice so sn sc, .slice ao an ac]] V fun e w' => ∃ go gc, e = .returned (.slice go (itN s) gc) ∧ Gv w' V.heap.size go (itN s) gc (itX s a) ∧ Below V.heap.size V w') := fun V k => refItems7_any so ao sn sc an ac s a V (HRB.out V k).1 ss (HRB.out V k).2 sa mx
  clear HOK HBD
  generalize itX s a = xs at *
  generalize itN s = n at *
  have HO : Hid (∀ V lo lc, AsQ V lo n xs → _) := fun V lo lc h => refOrder7 lo n lc xs (1) (cUp xs) V (fun N => cUp3 N _) (way_up _) h (by omega)
  go_enter Tryz.func17, Tryz.ntmps17
  go_wp2_with (first
    | (go_at_call 22; (with_reducible refine cB.mono ?_); rintro e V1 ⟨rfl, k1⟩; have U1 := UA.below k1 (by first | exact uzA | omega); have uz1 := U1.sz; clear q0 q1 cB k1 kA U0 UA AA; obtain ⟨q0, q1, _, _⟩ := box2 U1.x; obtain ⟨r0, r1, r2, r3⟩ := box2 U1.r; have cI := HIT.out V1 U1.bel)
    | (go_at_call 23; (with_reducible refine cI.mono ?_); rintro e V2 ⟨lo, lc, rfl, gl, k2⟩; have U2 := U1.below k2 uz1; have uz2 := U2.sz; have A2 := gv_as gl (by omega); clear q0 q1 r0 r1 r2 r3 cI k2 gl; obtain ⟨q0, q1, _, _⟩ := box2 U2.x; obtain ⟨r0, r1, r2, r3⟩ := box2 U2.r; have cO := HO.out V2 lo lc A2)
    | (go_at_call 30; (with_reducible refine cO.mono ?_); rintro e V3 ⟨oo, oc, ps, rfl, hP, f3, k3⟩; have HP : Hid (Pls (cUp xs) n ps) := hP; have U3 := U2.below k3 uz2; have uz3 := U3.sz; have cN := refNumbers7 oo n oc ps V3 f3.rd (by omega); clear hP q0 q1 r0 r1 r2 r3 cO k3)
    | (go_at_call 29; (with_reducible refine cN.mono ?_); rintro e V4 ⟨o1, c1, o2, c2, rfl, f1, f2, k4⟩; have U4 := U3.below k4 uz3; have uz4 := U4.sz; have kq := box_below V4 (.cells #[.slice o1 1 c1, .slice o2 n c2] 30); have U5 := U4.below kq uz4; obtain ⟨r0, r1, r2, r3⟩ := box2 U5.r; have g1 := f1.below kq (Nat.le_refl _); have g2 := f2.below kq (Nat.le_refl _)))
  (try simp only [Exit.inBlock, Exit.then])
  refine bodyPost_ret (v := .tuple #[.agg #[.slice o1 1 c1, .slice o2 n c2], .int .i64 0]) (by rw [results_cell_tmp rfl]; go_simp) rfl ?_
  exact (AnsQ.two g1 g2 U3.bel.size U3.bel.size U5.r (by omega) U5.bel).mono fun S A h => ⟨ps, HP.out, h.1, h.2⟩

set_option maxHeartbeats 8000000 in
set_option maxRecDepth 20000 in
theorem rm_38 (so ao : Option Addr) (sn sc an ac : Nat) (s a : List Int) (w : World) (hs : Rd w so sn s) (ss : Sl so sn sc) (ha : Rd w ao an a) (sa : Sl ao an ac) (mx : mayA s a = 0) :
    Calls Tryz.prog 17 #[.int .i64 38, .agg #[.slice so sn sc, .slice ao an ac]] w fun e w' => AnsQ w (fun S A => ∃ ps, Pls (cDn (itX s a)) (itN s) ps ∧ S = [(itN s : Int)] ∧ A = ps) 0 e w' := by
  have hn4 : itN s ≤ 4096 := by
    have := itN_tal (mayA_zero mx).1
    have := tal_bd (mayA_zero mx).1
    omega
  have HOK : true = true ↔ ∀ j, j < 1 → mayA s a = 0 := ⟨fun _ _ _ => mx, fun _ => rfl⟩
  have HBD : bdS 38 1 true = 0 := by decide
  have U0 := un_startQ w so sn sc ao an ac
  have uz := U0.sz
  have kA := box_below ((w.alloc (.cells #[.slice so sn sc, .slice ao an ac] 30)).alloc (.cells #[.slice none 0 0, .slice none 0 0] 30)) (.cells #[.slice so sn sc, .slice ao an ac] 30)
  have UA := U0.below kA uz
  have AA := as_one (sc := sc) (ac := ac) _ (hs.below U0.bel (Nat.le_refl _)) ss (ha.below U0.bel (Nat.le_refl _)) sa
  have cB := refBad7 38 1 _ 1 1 (fun _ => (s, a)) true _ AA (by omega) HOK
  rw [show bdS 38 1 true = 0 from HBD] at cB
  simp only [World.size_alloc] at cB
  obtain ⟨q0, q1, _, _⟩ := box2 U0.x
  have HRB : Hid (∀ V, Below w.heap.size w V → Rd V so sn s ∧ Rd V ao an a) := fun V k => ⟨hs.below k (Nat.le_refl _), ha.below k (Nat.le_refl _)⟩
  have uzA := UA.sz
  have HIT : Hid (∀ V, Below w.heap.size w V → Calls Tryz.prog 23 #[.agg #[.slice so sn sc, .slice ao an ac]] V fun e w' => ∃ go gc, e = .returned (.slice go (itN s) gc) ∧ Gv w' V.heap.size go (itN s) gc (itX s a) ∧ Below V.heap.size V w') := fun V k => refItems7_any so ao sn sc an ac s a V (HRB.out V k).1 ss (HRB.out V k).2 sa mx
  clear HOK HBD
  generalize itX s a = xs at *
  generalize itN s = n at *
  have HO : Hid (∀ V lo lc, AsQ V lo n xs → _) := fun V lo lc h => refOrder7 lo n lc xs (-1) (cDn xs) V (fun N => cDn3 N _) (way_dn _) h (by omega)
  go_enter Tryz.func17, Tryz.ntmps17
  go_wp2_with (first
    | (go_at_call 22; (with_reducible refine cB.mono ?_); rintro e V1 ⟨rfl, k1⟩; have U1 := UA.below k1 (by first | exact uzA | omega); have uz1 := U1.sz; clear q0 q1 cB k1 kA U0 UA AA; obtain ⟨q0, q1, _, _⟩ := box2 U1.x; obtain ⟨r0, r1, r2, r3⟩ := box2 U1.r; have cI := HIT.out V1 U1.bel)
    | (go_at_call 23; (with_reducible refine cI.mono ?_); rintro e V2 ⟨lo, lc, rfl, gl, k2⟩; have U2 := U1.below k2 uz1; have uz2 := U2.sz; have A2 := gv_as gl (by omega); clear q0 q1 r0 r1 r2 r3 cI k2 gl; obtain ⟨q0, q1, _, _⟩ := box2 U2.x; obtain ⟨r0, r1, r2, r3⟩ := box2 U2.r; have cO := HO.out V2 lo lc A2)
    | (go_at_call 30; (with_reducible refine cO.mono ?_); rintro e V3 ⟨oo, oc, ps, rfl, hP, f3, k3⟩; have HP : Hid (Pls (cDn xs) n ps) := hP; have U3 := U2.below k3 uz2; have uz3 := U3.sz; have cN := refNumbers7 oo n oc ps V3 f3.rd (by omega); clear hP q0 q1 r0 r1 r2 r3 cO k3)
    | (go_at_call 29; (with_reducible refine cN.mono ?_); rintro e V4 ⟨o1, c1, o2, c2, rfl, f1, f2, k4⟩; have U4 := U3.below k4 uz3; have uz4 := U4.sz; have kq := box_below V4 (.cells #[.slice o1 1 c1, .slice o2 n c2] 30); have U5 := U4.below kq uz4; obtain ⟨r0, r1, r2, r3⟩ := box2 U5.r; have g1 := f1.below kq (Nat.le_refl _); have g2 := f2.below kq (Nat.le_refl _)))
  (try simp only [Exit.inBlock, Exit.then])
  refine bodyPost_ret (v := .tuple #[.agg #[.slice o1 1 c1, .slice o2 n c2], .int .i64 0]) (by rw [results_cell_tmp rfl]; go_simp) rfl ?_
  exact (AnsQ.two g1 g2 U3.bel.size U3.bel.size U5.r (by omega) U5.bel).mono fun S A h => ⟨ps, HP.out, h.1, h.2⟩

set_option maxHeartbeats 8000000 in
set_option maxRecDepth 20000 in
theorem rm_10 (so ao : Option Addr) (sn sc an ac : Nat) (s a : List Int) (w : World) (hs : Rd w so sn s) (ss : Sl so sn sc) (ha : Rd w ao an a) (sa : Sl ao an ac) (mx : mayA s a = 0) :
    Calls Tryz.prog 17 #[.int .i64 10, .agg #[.slice so sn sc, .slice ao an ac]] w fun e w' => AnsQ w (fun S A => S = okL (mayF [((nbP s a).length : Int), (itN s : Int)]) [((nbP s a).length : Int), (itN s : Int)] ∧ A = okL (mayF [((nbP s a).length : Int), (itN s : Int)]) (ckL (nbP s a) (fsL (itX s a) (itN s)) (itN s))) (mayF [((nbP s a).length : Int), (itN s : Int)]) e w' := by
  have hn4 : itN s ≤ 4096 := by
    have := itN_tal (mayA_zero mx).1
    have := tal_bd (mayA_zero mx).1
    omega
  have HOK : true = true ↔ ∀ j, j < 1 → mayA s a = 0 := ⟨fun _ _ _ => mx, fun _ => rfl⟩
  have HBD : bdS 10 1 true = 0 := by decide
  have U0 := un_startQ w so sn sc ao an ac
  have uz := U0.sz
  have kA := box_below ((w.alloc (.cells #[.slice so sn sc, .slice ao an ac] 30)).alloc (.cells #[.slice none 0 0, .slice none 0 0] 30)) (.cells #[.slice so sn sc, .slice ao an ac] 30)
  have UA := U0.below kA uz
  have AA := as_one (sc := sc) (ac := ac) _ (hs.below U0.bel (Nat.le_refl _)) ss (ha.below U0.bel (Nat.le_refl _)) sa
  have cB := refBad7 10 1 _ 1 1 (fun _ => (s, a)) true _ AA (by omega) HOK
  rw [show bdS 10 1 true = 0 from HBD] at cB
  simp only [World.size_alloc] at cB
  obtain ⟨q0, q1, _, _⟩ := box2 U0.x
  have HRB : Hid (∀ V, Below w.heap.size w V → Rd V so sn s ∧ Rd V ao an a) := fun V k => ⟨hs.below k (Nat.le_refl _), ha.below k (Nat.le_refl _)⟩
  have uzA := UA.sz
  have HIT : Hid (∀ V, Below w.heap.size w V → Calls Tryz.prog 23 #[.agg #[.slice so sn sc, .slice ao an ac]] V fun e w' => ∃ go gc, e = .returned (.slice go (itN s) gc) ∧ Gv w' V.heap.size go (itN s) gc (itX s a) ∧ Below V.heap.size V w') := fun V k => refItems7_any so ao sn sc an ac s a V (HRB.out V k).1 ss (HRB.out V k).2 sa mx
  clear HOK HBD
  have HC : Hid (∀ V lo lc, AsQ V lo (itN s) (itX s a) → _) := fun V lo lc h => refClasses7 lo (itN s) lc (itX s a) V h hn4 (nbP s a) rfl _ rfl
  generalize mayF [((nbP s a).length : Int), (itN s : Int)] = E at *
  generalize okL E [((nbP s a).length : Int), (itN s : Int)] = S1 at *
  generalize okL E (ckL (nbP s a) (fsL (itX s a) (itN s)) (itN s)) = A1 at *
  generalize itX s a = xs at *
  generalize itN s = n at *
  go_enter Tryz.func17, Tryz.ntmps17
  go_wp2_with (first
    | (go_at_call 22; (with_reducible refine cB.mono ?_); rintro e V1 ⟨rfl, k1⟩; have U1 := UA.below k1 (by first | exact uzA | omega); have uz1 := U1.sz; clear q0 q1 cB k1 kA U0 UA AA; obtain ⟨q0, q1, _, _⟩ := box2 U1.x; obtain ⟨r0, r1, r2, r3⟩ := box2 U1.r; have cI := HIT.out V1 U1.bel)
    | (go_at_call 23; (with_reducible refine cI.mono ?_); rintro e V2 ⟨lo, lc, rfl, gl, k2⟩; have U2 := U1.below k2 uz1; have uz2 := U2.sz; have A2 := gv_as gl (by omega); clear q0 q1 r0 r1 r2 r3 cI k2 gl; obtain ⟨q0, q1, _, _⟩ := box2 U2.x; obtain ⟨r0, r1, r2, r3⟩ := box2 U2.r; have cO := HC.out V2 lo lc A2)
    | (go_at_call 28; (with_reducible refine cO.mono ?_); rintro e V4 ⟨o1, n1, c1, o2, n2, c2, rfl, f1, f2, k4⟩; have U4 := U2.below k4 uz2; have uz4 := U4.sz; have kq := box_below V4 (.cells #[.slice o1 n1 c1, .slice o2 n2 c2] 30); have U5 := U4.below kq uz4; clear q0 q1 r0 r1 r2 r3; obtain ⟨r0, r1, r2, r3⟩ := box2 U5.r; have g1 := f1.below kq (Nat.le_refl _); have g2 := f2.below kq (Nat.le_refl _)))
  (try simp only [Exit.inBlock, Exit.then])
  refine bodyPost_ret (v := .tuple #[.agg #[.slice o1 n1 c1, .slice o2 n2 c2], .int .i64 E]) (by rw [results_cell_tmp rfl]; go_simp) rfl ?_
  exact AnsQ.two g1 g2 U2.bel.size U2.bel.size U5.r (by omega) U5.bel

set_option maxHeartbeats 8000000 in
set_option maxRecDepth 20000 in
theorem rm_36 (so ao : Option Addr) (sn sc an ac : Nat) (s a : List Int) (w : World) (hs : Rd w so sn s) (ss : Sl so sn sc) (ha : Rd w ao an a) (sa : Sl ao an ac) (mx : mayA s a = 0) :
    Calls Tryz.prog 17 #[.int .i64 36, .agg #[.slice so sn sc, .slice ao an ac]] w fun e w' => AnsQ w (fun S A => S = ((nbP s a).length : Int) :: s.drop 1 ∧ A = chA (itX s a) (nbP s a) (nbP s a).length) 0 e w' := by
  have hn4 : itN s ≤ 4096 := by
    have := itN_tal (mayA_zero mx).1
    have := tal_bd (mayA_zero mx).1
    omega
  have HOK : true = true ↔ ∀ j, j < 1 → mayA s a = 0 := ⟨fun _ _ _ => mx, fun _ => rfl⟩
  have HBD : bdS 36 1 true = 0 := by decide
  have U0 := un_startQ w so sn sc ao an ac
  have uz := U0.sz
  have kA := box_below ((w.alloc (.cells #[.slice so sn sc, .slice ao an ac] 30)).alloc (.cells #[.slice none 0 0, .slice none 0 0] 30)) (.cells #[.slice so sn sc, .slice ao an ac] 30)
  have UA := U0.below kA uz
  have AA := as_one (sc := sc) (ac := ac) _ (hs.below U0.bel (Nat.le_refl _)) ss (ha.below U0.bel (Nat.le_refl _)) sa
  have cB := refBad7 36 1 _ 1 1 (fun _ => (s, a)) true _ AA (by omega) HOK
  rw [show bdS 36 1 true = 0 from HBD] at cB
  simp only [World.size_alloc] at cB
  obtain ⟨q0, q1, _, _⟩ := box2 U0.x
  have HRB : Hid (∀ V, Below w.heap.size w V → Rd V so sn s ∧ Rd V ao an a) := fun V k => ⟨hs.below k (Nat.le_refl _), ha.below k (Nat.le_refl _)⟩
  have uzA := UA.sz
  have HIT : Hid (∀ V, Below w.heap.size w V → Calls Tryz.prog 23 #[.agg #[.slice so sn sc, .slice ao an ac]] V fun e w' => ∃ go gc, e = .returned (.slice go (itN s) gc) ∧ Gv w' V.heap.size go (itN s) gc (itX s a) ∧ Below V.heap.size V w') := fun V k => refItems7_any so ao sn sc an ac s a V (HRB.out V k).1 ss (HRB.out V k).2 sa mx
  clear HOK HBD
  have HN : Hid (∀ V lo lc, AsQ V lo (itN s) (itX s a) → Calls Tryz.prog 25 #[.slice lo (itN s) lc] V fun e w' => ∃ o c, e = .returned (.slice o (nbP s a).length c) ∧ Ft 3 w' V.heap.size o (nbP s a).length c (nbP s a) ∧ Below V.heap.size V w') := fun V lo lc h => refNub7 lo (itN s) lc (itX s a) V h hn4
  have hnl := nbP_len s a
  have HG : Hid (∀ V po pc, Below w.heap.size w V → Rd V po (nbP s a).length (nbP s a) → Calls Tryz.prog 24 #[.agg #[.slice so sn sc, .slice ao an ac], .slice po (nbP s a).length pc] V fun e w' => ∃ o1 n1 c1 o2 n2 c2, e = .returned (.agg #[.slice o1 n1 c1, .slice o2 n2 c2]) ∧ Ft 3 w' V.heap.size o1 n1 c1 (((nbP s a).length : Int) :: s.drop 1) ∧ Ft 2 w' V.heap.size o2 n2 c2 (chA (itX s a) (nbP s a) (nbP s a).length) ∧ Below V.heap.size V w') := fun V po pc k hr => refGathered7 so ao sn sc an ac s a po _ pc (nbP s a) V (HRB.out V k).1 ss (HRB.out V k).2 sa mx hr (nbP_in s a) (by omega)
  generalize chA (itX s a) (nbP s a) (nbP s a).length = A1 at *
  generalize ((nbP s a).length : Int) :: s.drop 1 = S1 at *
  generalize nbP s a = nb at *
  generalize nb.length = m at *
  generalize itX s a = xs at *
  generalize itN s = n at *
  go_enter Tryz.func17, Tryz.ntmps17
  go_wp2_with (first
    | (go_at_call 22; (with_reducible refine cB.mono ?_); rintro e V1 ⟨rfl, k1⟩; have U1 := UA.below k1 (by first | exact uzA | omega); have uz1 := U1.sz; clear q0 q1 cB k1 kA U0 UA AA; obtain ⟨q0, q1, _, _⟩ := box2 U1.x; obtain ⟨r0, r1, r2, r3⟩ := box2 U1.r; have cI := HIT.out V1 U1.bel)
    | (go_at_call 23; (with_reducible refine cI.mono ?_); rintro e V2 ⟨lo, lc, rfl, gl, k2⟩; have U2 := U1.below k2 uz1; have uz2 := U2.sz; have A2 := gv_as gl (by omega); clear q0 q1 r0 r1 r2 r3 cI k2 gl; obtain ⟨q0, q1, _, _⟩ := box2 U2.x; obtain ⟨r0, r1, r2, r3⟩ := box2 U2.r))
  have HU2 : Hid (UnQ w V2 so sn sc ao an ac) := U2
  have bD2 := U2.bel
  have AL2 : ∀ V, Below V2.heap.size V2 V → V.cell? ⟨w.heap.size, 0, none⟩ = some (.slice so sn sc) ∧ V.cell? ⟨w.heap.size, 1, none⟩ = some (.slice ao an ac) ∧ Below V2.heap.size V2 V := fun V kk => by
    obtain ⟨z0, z1, _, _⟩ := box2 (HU2.out.below kk uz2).x
    exact ⟨z0, z1, kk⟩
  have cN : ∀ V, Below V2.heap.size V2 V → Calls Tryz.prog 25 #[.slice lo n lc] V fun e w' => ∃ o c, e = .returned (.slice o m c) ∧ Rd w' o m nb ∧ Below V2.heap.size V2 w' ∧ Below V.heap.size V w' := fun V kk => (HN.out V lo lc (A2.below kk (Nat.le_refl _))).mono fun e w' ⟨o, c, h1, h2, h3⟩ => ⟨o, c, h1, h2.rd, kk.trans (h3.mono kk.size), h3⟩
  have cG : ∀ V po pc, Below V2.heap.size V2 V → Rd V po m nb → Calls Tryz.prog 24 #[.agg #[.slice so sn sc, .slice ao an ac], .slice po m pc] V fun e w' => ∃ o1 n1 c1 o2 n2 c2, e = .returned (.agg #[.slice o1 n1 c1, .slice o2 n2 c2]) ∧ Ft 3 w' V2.heap.size o1 n1 c1 S1 ∧ Ft 2 w' V2.heap.size o2 n2 c2 A1 ∧ Below V2.heap.size V2 w' ∧ Below V.heap.size V w' := fun V po pc kk hr => (HG.out V po pc (bD2.trans (kk.mono bD2.size)) hr).mono fun e w' ⟨o1, n1, c1, o2, n2, c2, h1, h2, h3, h4⟩ => ⟨o1, n1, c1, o2, n2, c2, h1, h2.mono kk.size, h3.mono kk.size, kk.trans (h4.mono kk.size), h4⟩
  have B2 : Below V2.heap.size V2 V2 := Below.refl _ _
  clear q0 q1 r0 r1 r2 r3 U1 uz1 U2 bD2
  go_cut [8] (fun q V => ∃ qb o1 n1 c1 o2 n2 c2, q = .pointer (some ⟨qb, 0, none⟩) ∧ (V.cell? ⟨qb, 0, none⟩ = some (.slice o1 n1 c1) ∧ V.cell? ⟨qb, 1, none⟩ = some (.slice o2 n2 c2)) ∧ Ft 3 V V2.heap.size o1 n1 c1 S1 ∧ Ft 2 V V2.heap.size o2 n2 c2 A1 ∧ Below V2.heap.size V2 V)
  case first =>
    go_region_held3 (fun V => V.cell? ⟨w.heap.size, 0, none⟩ = some (.slice so sn sc) ∧ V.cell? ⟨w.heap.size, 1, none⟩ = some (.slice ao an ac) ∧ Below V2.heap.size V2 V) (exact AL2 _ (by repeat (first | assumption | exact Below.refl _ _ | refine Below.drew ?_ | refine bgA _ ?_ (Nat.le_refl _) | refine bgS _ ?_ (by first | exact Nat.le_refl _ | exact k4.size | exact k5.size))))
      (first
        | (go_at_call 25; (with_reducible refine (cN (V2.alloc (.cells #[.slice none 0 0, .slice none 0 0] 30)).drew (bgA _ B2 (Nat.le_refl _)).drew).mono ?_); rintro e V4 ⟨oo, oc, rfl, R4, k4, k4'⟩; have nb2 := (k4'.block V2.heap.size (show V2.heap.size < (V2.alloc (.cells #[.slice none 0 0, .slice none 0 0] 30)).heap.size by simp)).trans (allocNew V2 (.cells #[.slice none 0 0, .slice none 0 0] 30)))
        | (go_at_call 25; (with_reducible refine (cN V2.drew B2.drew).mono ?_); rintro e V4 ⟨oo, oc, rfl, R4, k4, k4'⟩)
        | (go_at_call 24; (with_reducible refine (cG V4 oo oc k4 R4).mono ?_); rintro e V5 ⟨o1, n1, c1, o2, n2, c2, rfl, f1, f2, k5, k5'⟩; have nb3 := (k5'.block _ (Array.getElem?_eq_some_iff.1 nb2).1).trans nb2; obtain ⟨x0, x1, x2, x3⟩ := box2 nb3)
        | (go_at_call 24; (with_reducible refine (cG (V4.alloc (.cells #[.slice none 0 0, .slice none 0 0] 30)) oo oc (bgA _ k4 (Nat.le_refl _)) (R4.below (box_below V4 _) (Nat.le_refl _))).mono ?_); rintro e V5 ⟨o1, n1, c1, o2, n2, c2, rfl, f1, f2, k5, k5'⟩; have nb3 := (k5'.block V4.heap.size (by simp)).trans (allocNew V4 (.cells #[.slice none 0 0, .slice none 0 0] 30)); obtain ⟨x0, x1, x2, x3⟩ := box2 nb3)
        | (go_at_call 24; (with_reducible refine (cG V4 oo oc k4 R4).mono ?_); rintro e V5 ⟨o1, n1, c1, o2, n2, c2, rfl, f1, f2, k5, k5'⟩))
    all_goals
      go_wp2
      go_meet
      case rel =>
        first
          | (refine ⟨V2.heap.size, o1, n1, c1, o2, n2, c2, rfl, ⟨?_, ?_⟩, f1.kind (set2 V5 V2.heap.size _ _ _ _) nb3 (by decide), f2.kind (set2 V5 V2.heap.size _ _ _ _) nb3 (by decide), bgS _ (bgS _ k5 (Nat.le_refl _)) (Nat.le_refl _)⟩ <;> go_simp)
          | (refine ⟨V4.heap.size, o1, n1, c1, o2, n2, c2, rfl, ⟨?_, ?_⟩, f1.kind (set2 V5 V4.heap.size _ _ _ _) nb3 (by decide), f2.kind (set2 V5 V4.heap.size _ _ _ _) nb3 (by decide), bgS _ (bgS _ k5 k4.size) k4.size⟩ <;> go_simp)
          | (refine ⟨V5.heap.size, o1, n1, c1, o2, n2, c2, rfl, ⟨?_, ?_⟩, f1.below (box_below V5 _) (Nat.le_refl _), f2.below (box_below V5 _) (Nat.le_refl _), bgA _ k5 (Nat.le_refl _)⟩ <;> go_simp)
  case rest =>
    obtain ⟨qb, o1, n1, c1, o2, n2, c2, rfl, ⟨d0, d1⟩, f1, f2, kc⟩ := hcut
    have UC := HU2.out.below kc uz2
    obtain ⟨r0, r1, r2, r3⟩ := box2 UC.r
    go_wp2
    (try simp only [Exit.inBlock, Exit.then])
    refine bodyPost_ret (v := .tuple #[.agg #[.slice o1 n1 c1, .slice o2 n2 c2], .int .i64 0]) (by rw [results_cell_tmp rfl]; go_simp) rfl ?_
    exact AnsQ.two f1 f2 HU2.out.bel.size HU2.out.bel.size UC.r (by omega) UC.bel

set_option maxHeartbeats 8000000 in
set_option maxRecDepth 20000 in
theorem rm_11 (so ao : Option Addr) (sn sc an ac : Nat) (s a : List Int) (w : World) (hs : Rd w so sn s) (ss : Sl so sn sc) (ha : Rd w ao an a) (sa : Sl ao an ac) (mx : mayA s a = 0) :
    Calls Tryz.prog 17 #[.int .i64 11, .agg #[.slice so sn sc, .slice ao an ac]] w fun e w' => AnsQ w (fun S A => S = [(itN s : Int)] ∧ A = ifL (fsL (itX s a) (itN s)) (itN s)) 0 e w' := by
  have hn4 : itN s ≤ 4096 := by
    have := itN_tal (mayA_zero mx).1
    have := tal_bd (mayA_zero mx).1
    omega
  have HOK : true = true ↔ ∀ j, j < 1 → mayA s a = 0 := ⟨fun _ _ _ => mx, fun _ => rfl⟩
  have HBD : bdS 11 1 true = 0 := by decide
  have U0 := un_startQ w so sn sc ao an ac
  have uz := U0.sz
  have kA := box_below ((w.alloc (.cells #[.slice so sn sc, .slice ao an ac] 30)).alloc (.cells #[.slice none 0 0, .slice none 0 0] 30)) (.cells #[.slice so sn sc, .slice ao an ac] 30)
  have UA := U0.below kA uz
  have AA := as_one (sc := sc) (ac := ac) _ (hs.below U0.bel (Nat.le_refl _)) ss (ha.below U0.bel (Nat.le_refl _)) sa
  have cB := refBad7 11 1 _ 1 1 (fun _ => (s, a)) true _ AA (by omega) HOK
  rw [show bdS 11 1 true = 0 from HBD] at cB
  simp only [World.size_alloc] at cB
  obtain ⟨q0, q1, _, _⟩ := box2 U0.x
  have HRB : Hid (∀ V, Below w.heap.size w V → Rd V so sn s ∧ Rd V ao an a) := fun V k => ⟨hs.below k (Nat.le_refl _), ha.below k (Nat.le_refl _)⟩
  have uzA := UA.sz
  have HIT : Hid (∀ V, Below w.heap.size w V → Calls Tryz.prog 23 #[.agg #[.slice so sn sc, .slice ao an ac]] V fun e w' => ∃ go gc, e = .returned (.slice go (itN s) gc) ∧ Gv w' V.heap.size go (itN s) gc (itX s a) ∧ Below V.heap.size V w') := fun V k => refItems7_any so ao sn sc an ac s a V (HRB.out V k).1 ss (HRB.out V k).2 sa mx
  clear HOK HBD
  have HEL : Hid ((ifL (fsL (itX s a) (itN s)) (itN s)).length = itN s) := ifL_len _ _
  have HEN : Hid (∀ k, k < itN s → nth (ifL (fsL (itX s a) (itN s)) (itN s)) k = if ((k : Int) == ((fsq (itX s a) (itN s) (itX s a k) : Nat) : Int)) = true then 1 else 0) := fun k hk => by rw [ifL_nth hk, fsL_nth hk]
  generalize ifL (fsL (itX s a) (itN s)) (itN s) = es at *
  generalize itX s a = xs at *
  generalize itN s = n at *
  go_enter Tryz.func17, Tryz.ntmps17
  go_wp2_with (first
    | (go_at_call 22; (with_reducible refine cB.mono ?_); rintro e V1 ⟨rfl, k1⟩; have U1 := UA.below k1 (by first | exact uzA | omega); have uz1 := U1.sz; clear q0 q1 cB k1 kA U0 UA AA; obtain ⟨q0, q1, _, _⟩ := box2 U1.x; obtain ⟨r0, r1, r2, r3⟩ := box2 U1.r; have cI := HIT.out V1 U1.bel)
    | (go_at_call 23; (with_reducible refine cI.mono ?_); rintro e V2 ⟨lo, lc, rfl, gl, k2⟩; have U2 := U1.below k2 uz1; have uz2 := U2.sz; have A2 := gv_as gl (by omega); clear q0 q1 r0 r1 r2 r3 cI k2 gl; obtain ⟨q0, q1, _, _⟩ := box2 U2.x; obtain ⟨r0, r1, r2, r3⟩ := box2 U2.r))
  have kS := box_below V2 (.cells #[.int .i64 (n : Int)] 3)
  have fS := ft_new 3 V2 [(n : Int)] (by simp) (num1 (by omega) (by omega))
  have kq := box_below (V2.alloc (.cells #[.int .i64 (n : Int)] 3)) (.cells #[.slice (some ⟨V2.heap.size, 0, none⟩) 1 1, .slice none 0 0] 30)
  have nq := allocNew (V2.alloc (.cells #[.int .i64 (n : Int)] 3)) (.cells #[.slice (some ⟨V2.heap.size, 0, none⟩) 1 1, .slice none 0 0] 30)
  rw [World.size_alloc] at nq
  have fC := fS.below kq (Nat.le_refl _)
  have kk : Below V2.heap.size V2 ((V2.alloc (.cells #[.int .i64 (n : Int)] 3)).alloc (.cells #[.slice (some ⟨V2.heap.size, 0, none⟩) 1 1, .slice none 0 0] 30)) := kS.trans (kq.mono kS.size)
  have sC : V2.heap.size + 1 < ((V2.alloc (.cells #[.int .i64 (n : Int)] 3)).alloc (.cells #[.slice (some ⟨V2.heap.size, 0, none⟩) 1 1, .slice none 0 0] 30)).heap.size := by simp
  have UC := U2.below kk uz2
  clear kS fS kq
  generalize (V2.alloc (.cells #[.int .i64 (n : Int)] 3)).alloc (.cells #[.slice (some ⟨V2.heap.size, 0, none⟩) 1 1, .slice none 0 0] 30) = C at *
  have hqs : V2.heap.size ≤ V2.heap.size + 1 := by omega
  have b2 := U2.bel
  have hw2 := U2.bel.size
  have HR2 : Hid (C.heap[w.heap.size + 1]? = some (.cells #[.slice none 0 0, .slice none 0 0] 30 (0, 0))) := UC.r
  have HBC : Hid (Below w.heap.size w C) := UC.bel
  have HU2z : Hid (w.heap.size + 2 ≤ V2.heap.size) := uz2
  clear U1 uz1 UC q0 q1 r0 r1 r2 r3
  have HV2 : Hid (V2.heap.size + 1 = V2.heap.size + 1) := rfl
  obtain ⟨q, hq⟩ : ∃ q, V2.heap.size + 1 = q := ⟨_, rfl⟩
  rw [hq] at nq sC hqs ⊢
  have hqw : w.heap.size + 2 < q := by omega
  have G0 : Gw C C q (some ⟨V2.heap.size, 0, none⟩) 1 1 none 0 0 (es.take 0) := ⟨nq, Ft.nil _ _ _, ⟨rfl, rfl, rfl, Nat.le_refl _, fun _ _ _ => rfl⟩, sC⟩
  have HQ : Hid (V2.heap.size + 1 = q) := hq
  clear hq HV2 uz2
  go_loopw [10] (fun i V => ∃ (k : Nat) (o : Option Addr) (c : Nat), k ≤ n ∧ i = .int .i64 (k : Nat) ∧ Gw C V q (some ⟨V2.heap.size, 0, none⟩) 1 1 o k c (es.take k)) (fun i _ => n - (intOf i).toNat)
  case atStart => exact ⟨0, none, 0, Nat.zero_le _, rfl, G0⟩
  case round =>
    clear G0
    obtain ⟨k, o, c, hk, rfl, GW⟩ := hrel
    have bV := GW.far kk hqs
    have hs' := GW.g.size
    obtain ⟨y0, y1, yf, yg⟩ := box2 GW.a
    by_cases hlt : k < n
    · have t1 : decide ((k : Int) < (n : Int)) = true := by simp; omega
      have t2 : (k : Int) < (n : Int) := by omega
      obtain ⟨bb, off, rfl, hb2, hcs⟩ := A2.cells (by omega)
      obtain ⟨eo, en, ec, fo', fn', fc', p0, p1, r0, _, r1, _⟩ := hcs k hlt
      have bd := bV.drew
      have cF := refFirst7_any (some ⟨bb, off, none⟩) n lc xs eo fo' en ec fn' fc' (xs k) wr.drew (A2.below bd (Nat.le_refl _)) (by omega) (r0.below bd (Nat.le_refl _)) (r1.below bd (Nat.le_refl _))
      have hen := HEN.out k hlt
      obtain ⟨f, hf⟩ : ∃ f, fsq xs n (xs k) = f := ⟨_, rfl⟩
      rw [hf] at cF hen
      obtain ⟨bo, hbo⟩ : ∃ bo, ((f : Int) == (k : Int)) = bo := ⟨_, rfl⟩
      have hbo2 : ((k : Int) == (f : Int)) = bo := by rw [← hbo, BEq.comm]
      rw [hbo2] at hen
      have cO := fun V => refOne7 bo V
      obtain ⟨v, hvv⟩ : ∃ v : Int, (if bo = true then (1 : Int) else 0) = v := ⟨_, rfl⟩
      rw [hvv] at cO hen
      have vb : -9223372036854775808 ≤ v ∧ v ≤ 9223372036854775807 := by rw [← hvv]; split <;> omega
      have HT : Hid (es.take k ++ [v] = es.take (k + 1)) := by show _ = _; rw [← hen]; exact take_more (by rw [HEL.out]; exact hlt)
      have hbC : bb < C.heap.size := Nat.lt_of_lt_of_le hb2 kk.size
      have hb : bb < wr.heap.size := by omega
      have z0 := (bV.cell (p := ⟨bb, off + k * 2, none⟩) hb2).trans p0
      have z1 := (bV.cell (p := ⟨bb, off + k * 2 + 1, none⟩) hb2).trans p1
      clear hcs r0 r1 p0 p1 hen hvv hbo2 hf
      have HS : wr.drew.cell? ⟨q, 1, none⟩ = some (.slice o k c) ∧ wr.drew.cell? ⟨bb, off + k * 2, none⟩ = some (.slice eo en ec) ∧ wr.drew.cell? ⟨bb, off + k * 2 + 1, none⟩ = some (.slice fo' fn' fc') := ⟨y1, z0, z1⟩
      go_wp2
      (try rw [HQ.out])
      refine wp_region_R (fun V => V.cell? ⟨q, 1, none⟩ = some (.slice o k c) ∧ V.cell? ⟨bb, off + k * 2, none⟩ = some (.slice eo en ec) ∧ V.cell? ⟨bb, off + k * 2 + 1, none⟩ = some (.slice fo' fn' fc')) (fun i => i != 14) (by kernel_rfl) ?_
      refine wpAnyR_take (i := 0) (v := .pointer (some ⟨q, 1, none⟩)) rfl (by kernel_rfl) (by kernel_rfl) (by kernel_rfl) (by kernel_rfl) (fun _ _ _ h => h) (Or.inl ⟨by rfl, fun V hV => ?_⟩) ?_ ?_
      · obtain ⟨g0, g1, g2⟩ := hV
        go_simp
      · exact HS
      conv => arg 9; simp [Act.put]
      refine wpAnyR_take (i := 1) (v := .slice o k c) rfl (by kernel_rfl) (by kernel_rfl) (by kernel_rfl) (by kernel_rfl) (fun _ _ _ h => h) (Or.inl ⟨by rfl, fun V hV => ?_⟩) ?_ ?_
      · obtain ⟨g0, g1, g2⟩ := hV
        go_simp
      · exact HS
      conv => arg 9; simp [Act.put]
      refine wpAnyR_take (i := 2) (v := .slice (some ⟨bb, off, none⟩) n lc) rfl (by kernel_rfl) (by kernel_rfl) (by kernel_rfl) (by kernel_rfl) (fun _ _ _ h => h) (Or.inl ⟨by rfl, fun V hV => ?_⟩) ?_ ?_
      · obtain ⟨g0, g1, g2⟩ := hV
        go_simp
      · exact HS
      conv => arg 9; simp [Act.put]
      refine wpAnyR_take (i := 3) (v := .slice (some ⟨bb, off, none⟩) n lc) rfl (by kernel_rfl) (by kernel_rfl) (by kernel_rfl) (by kernel_rfl) (fun _ _ _ h => h) (Or.inl ⟨by rfl, fun V hV => ?_⟩) ?_ ?_
      · obtain ⟨g0, g1, g2⟩ := hV
        go_simp
      · exact HS
      conv => arg 9; simp [Act.put]
      refine wpAnyR_take (i := 4) (v := .int .i64 (k : Int)) rfl (by kernel_rfl) (by kernel_rfl) (by kernel_rfl) (by kernel_rfl) (fun _ _ _ h => h) (Or.inl ⟨by rfl, fun V hV => ?_⟩) ?_ ?_
      · obtain ⟨g0, g1, g2⟩ := hV
        go_simp
      · exact HS
      conv => arg 9; simp [Act.put]
      refine wpAnyR_take (i := 5) (v := .pointer (some ⟨bb, off + k * 2, none⟩)) rfl (by kernel_rfl) (by kernel_rfl) (by kernel_rfl) (by kernel_rfl) (fun _ _ _ h => h) (Or.inl ⟨by rfl, fun V hV => ?_⟩) ?_ ?_
      · obtain ⟨g0, g1, g2⟩ := hV
        go_simp
      · exact HS
      conv => arg 9; simp [Act.put]
      refine wpAnyR_take (i := 6) (v := .agg #[.slice eo en ec, .slice fo' fn' fc']) rfl (by kernel_rfl) (by kernel_rfl) (by kernel_rfl) (by kernel_rfl) (fun _ _ _ h => h) (Or.inl ⟨by rfl, fun V hV => ?_⟩) ?_ ?_
      · obtain ⟨g0, g1, g2⟩ := hV
        go_simp
      · exact HS
      conv => arg 9; simp [Act.put]
      refine wpAnyR_take (i := 8) (v := .int .i64 (k : Int)) rfl (by kernel_rfl) (by kernel_rfl) (by kernel_rfl) (by kernel_rfl) (fun _ _ _ h => h) (Or.inl ⟨by rfl, fun V hV => ?_⟩) ?_ ?_
      · obtain ⟨g0, g1, g2⟩ := hV
        go_simp
      · exact HS
      conv => arg 9; simp [Act.put]
      refine wpAnyR_one (i := 7) (by kernel_rfl) rfl (fun K hK => ?_)
      go_simp
      go_wp2_with (go_at_call 27; (with_reducible refine cF.mono ?_); rintro e V5 ⟨rfl, k5⟩; have kA : Below wr.heap.size wr V5 := ((Below.refl wr.heap.size wr).drew).trans k5; have GA := GW.below kA; have HSA : V5.cell? ⟨q, 1, none⟩ = some (.slice o k c) ∧ V5.cell? ⟨bb, off + k * 2, none⟩ = some (.slice eo en ec) ∧ V5.cell? ⟨bb, off + k * 2 + 1, none⟩ = some (.slice fo' fn' fc') := ⟨(box2 GA.a).2.1, (kA.cell (p := ⟨bb, off + k * 2, none⟩) hb).trans z0, (kA.cell (p := ⟨bb, off + k * 2 + 1, none⟩) hb).trans z1⟩; refine hK _ _ ⟨fun _ => HSA, ?_⟩; clear hK)
      conv => arg 9; simp [Act.put]
      refine wpAnyR_take (i := 9) (v := .bool bo) rfl (by kernel_rfl) (by kernel_rfl) (by kernel_rfl) (by kernel_rfl) (fun _ _ _ h => h) (Or.inl ⟨by rfl, fun V hV => ?_⟩) ?_ ?_
      · obtain ⟨g0, g1, g2⟩ := hV
        go_simp
      · exact HSA
      conv => arg 9; simp [Act.put]
      refine wpAnyR_one (i := 10) (by kernel_rfl) rfl (fun K hK => ?_)
      go_simp
      go_wp2_with (go_at_call 26; (with_reducible refine (cO V5).mono ?_); rintro e V6 ⟨rfl, hV6⟩; rw [hV6]; clear hV6; refine hK _ _ ⟨fun _ => HSA, ?_⟩; clear hK)
      conv => arg 9; simp [Act.put]
      refine wpAnyR_one (i := 11) (by kernel_rfl) rfl (fun K hK => ?_)
      have F1 := newL V5 v vb.1 vb.2
      have kb := box_below V5 (.cells #[.int .i64 v] 2)
      have kB : Below wr.heap.size wr (V5.alloc (.cells #[.int .i64 v] 2)) := kA.trans (kb.mono kA.size)
      have GB := GW.below kB
      have HSB : (V5.alloc (.cells #[.int .i64 v] 2)).cell? ⟨q, 1, none⟩ = some (.slice o k c) ∧ (V5.alloc (.cells #[.int .i64 v] 2)).cell? ⟨bb, off + k * 2, none⟩ = some (.slice eo en ec) ∧ (V5.alloc (.cells #[.int .i64 v] 2)).cell? ⟨bb, off + k * 2 + 1, none⟩ = some (.slice fo' fn' fc') := ⟨(box2 GB.a).2.1, (kB.cell (p := ⟨bb, off + k * 2, none⟩) hb).trans z0, (kB.cell (p := ⟨bb, off + k * 2 + 1, none⟩) hb).trans z1⟩
      go_simp
      refine hK _ _ ⟨fun _ => HSB, ?_⟩
      clear hK
      conv => arg 9; simp [Act.put]
      refine wpAnyR_one (i := 12) (by kernel_rfl) rfl (fun K hK => ?_)
      refine step_joinW tyL rfl (.tmp 46) (.tmp 56) rfl C.heap.size (k + 1) o (some ⟨V5.heap.size, 0, none⟩) k c 1 1 (es.take k) [v] rfl (by simp [Act.eval]) (by simp [Act.eval]) GB.l F1.rd F1.sl (by omega) GB.g.size ?_
      intro co9 cc9 W9 f9 g9 a9
      have b9' := ft_grows GB.l g9 GB.g.size
      have b9 : Below C.heap.size wr W9 := (kB.mono hs').trans b9'
      have q9 := (b9.block q sC).trans GW.a
      have HS9 : W9.cell? ⟨q, 1, none⟩ = some (.slice o k c) ∧ W9.cell? ⟨bb, off + k * 2, none⟩ = some (.slice eo en ec) ∧ W9.cell? ⟨bb, off + k * 2 + 1, none⟩ = some (.slice fo' fn' fc') := ⟨(box2 q9).2.1, (b9.cell (p := ⟨bb, off + k * 2, none⟩) hbC).trans z0, (b9.cell (p := ⟨bb, off + k * 2 + 1, none⟩) hbC).trans z1⟩
      have F9 := (box2 q9).2.2.2
      refine hK _ _ ⟨fun _ => HS9, ?_⟩
      clear hK
      conv => arg 9; simp [Act.put]
      refine wpAnyR_one (i := 13) (by kernel_rfl) rfl (fun K hK => ?_)
      go_simp
      refine hK _ _ ⟨fun _ => HS9, ?_⟩
      clear hK
      conv => arg 9; simp [Act.put]
      refine wpAnyR_one (i := 14) (by kernel_rfl) rfl (fun K hK => ?_)
      go_simp
      refine hK _ _ ⟨fun h => absurd h (by decide), ?_⟩
      clear hK
      refine wpAnyR_done (by kernel_rfl) ?_ _
      go_wp2
      go_roundw
      case measure => simp [intOf]; omega
      case rel =>
        refine ⟨k + 1, co9, cc9, by omega, by go_num, ?_⟩
        rw [← HT.out]
        exact gw_step GW b9 f9
    · obtain rfl : k = n := by omega
      have t1 : decide ((k : Int) < (k : Int)) = false := by simp
      have rV := (GW.g.block (w.heap.size + 1) (by omega) (by intro e; simp only [Option.some.injEq] at e; omega)).trans HR2.out
      obtain ⟨x0, x1, xf, xg⟩ := box2 rV
      go_wp2
      (try simp only [Exit.inBlock, Exit.then])
      refine bodyPost_ret (v := .tuple #[.agg #[.slice (some ⟨V2.heap.size, 0, none⟩) 1 1, .slice o k c], .int .i64 0]) (by rw [results_cell_tmp rfl]; go_simp) rfl ?_
      have ge := GW.l
      rw [List.take_of_length_le (by rw [HEL.out]; exact Nat.le_refl _)] at ge
      exact AnsQ.two (GW.sh fC nq) ge hw2 (by omega) rV (by omega) (GW.far HBC.out (by omega))
end Go.Proofs.YtmepcenbaohcoaaGreat
