
/- Contract of package digit: the number whose digits are told. -/

import Derived.Test.YtjnlkdeiccllgaaZI

namespace Go.Proofs.Ytjnlkdeiccllgaa

open Go.RowKit

set_option linter.unusedVariables false

/-- The first k digits put together, if nothing leaves 64 bits. -/
def fbR (bs ds : List Int) : Nat → Option Int
  | 0 => some 0
  | k + 1 => match fbR bs ds k with
    | none => none
    | some r => if Nm.inr (r * nth bs k) = true ∧ Nm.inr (r * nth bs k + nth ds k) = true then some (r * nth bs k + nth ds k) else none
theorem fbR_succ {bs ds : List Int} {k : Nat} {r : Int} (h : fbR bs ds k = some r) : fbR bs ds (k + 1) = if Nm.inr (r * nth bs k) = true ∧ Nm.inr (r * nth bs k + nth ds k) = true then some (r * nth bs k + nth ds k) else none := by
  rw [fbR, h]
theorem fbR_none {bs ds : List Int} {k : Nat} (h : fbR bs ds k = none) : ∀ n, k ≤ n → fbR bs ds n = none
  | 0, hn => by obtain rfl : k = 0 := by omega
                exact h
  | n + 1, hn => by
    by_cases e : k = n + 1
    · rw [← e]; exact h
    · rw [fbR, fbR_none h n (by omega)]
def fbE (o : Option Int) : Int := match o with | none => 14 | some _ => 0
def fbA (o : Option Int) : List Int := match o with | none => [] | some r => [r]

set_option maxHeartbeats 4000000 in
set_option maxRecDepth 20000 in
theorem fromBase_bad (so ao uo bo : Option Addr) (sn sc an ac un uc bn bc : Nat) (sx ax sy ay : List Int) (w : World) (hx : Rd w so sn sx) (gx : Rd w ao an ax) (gsx : Sl ao an ac) (hy : Rd w uo un sy) (gy : Rd w bo bn ay) (gsy : Sl bo bn bc) (an4 : an ≤ 4096) (bn4 : bn ≤ 4096) (h11 : sn = 0 → an = 1) (h12 : un = 0 → bn = 1) (h1 : 0 < sn) (h2 : 0 < un) (h3 : an ≠ bn) :
    Calls Try.prog 26 #[.agg #[.slice so sn sc, .slice ao an ac], .agg #[.slice uo un uc, .slice bo bn bc]] w fun e w' => AnsQ w (fun S A => S = [] ∧ A = []) 11 e w' := by
  have D0 := du_startQ w so sn sc ao an ac uo un uc bo bn bc
  have s0 := D0.sz
  obtain ⟨x0, x1, _, _⟩ := box2 D0.x
  obtain ⟨x2, x3, _, _⟩ := box2 D0.y
  have al : ∀ V, DuQ w V so sn sc ao an ac uo un uc bo bn bc → V.cell? ⟨w.heap.size, 0, none⟩ = some (.slice so sn sc) ∧ V.cell? ⟨w.heap.size, 1, none⟩ = some (.slice ao an ac) ∧ V.cell? ⟨w.heap.size + 1, 0, none⟩ = some (.slice uo un uc) ∧ V.cell? ⟨w.heap.size + 1, 1, none⟩ = some (.slice bo bn bc) := fun V D => ⟨(box2 D.x).1, (box2 D.x).2.1, (box2 D.y).1, (box2 D.y).2.1⟩
  have DD : ∀ V, DuQ w V so sn sc ao an ac uo un uc bo bn bc → DuQ w V.drew so sn sc ao an ac uo un uc bo bn bc := fun V D => D.below (B := V.heap.size) (Below.refl _ _).drew D.sz
  have cTx := fun V (D : DuQ w V so sn sc ao an ac uo un uc bo bn bc) => taken_any so ao sn sc an ac bn sx ax V (hx.below D.bel (Nat.le_refl _)) (gx.below D.bel (Nat.le_refl _)) gsx bn4 h11
  have cTy := fun V (D : DuQ w V so sn sc ao an ac uo un uc bo bn bc) => taken_any uo bo un uc bn bc an sy ay V (hy.below D.bel (Nat.le_refl _)) (gy.below D.bel (Nat.le_refl _)) gsy an4 h12
  clear h11 h12
  have t1 : decide (0 < sn) = true := by simpa using h1
  have t1b : (0 : Int) < (sn : Int) := by omega
  have t2 : decide (0 < un) = true := by simpa using h2
  have t2b : (0 : Int) < (un : Int) := by omega
  have t3 : ((an : Int) != (bn : Int)) = true := by simp; omega
  have t3b : (an != bn) = true := by simpa using h3
  clear h3
  obtain ⟨r0, r1, r2, r3⟩ := box2 D0.r
  go_enter Try.func26, Try.ntmps26
  go_wp2
  (try simp only [Exit.inBlock, Exit.then])
  first
    | (refine bodyPost_ret (v := .tuple #[.agg #[.slice none 0 0, .slice none 0 0], .int .i64 11]) (by rw [results_cell_tmp rfl]; go_simp) rfl ?_; exact ret0 rfl (by first | exact D0.bel | exact below_set2 _ _ _ _ D0.bel (by omega) (Nat.le_refl _)))
    | (go_returns; exact ret0 rfl (by first | exact D0.bel | exact below_set2 _ _ _ _ D0.bel (by omega) (Nat.le_refl _)))

set_option maxHeartbeats 4000000 in
set_option maxRecDepth 20000 in
theorem fromBase_a (so ao uo bo : Option Addr) (sn sc an ac un uc bn bc : Nat) (sx ax sy ay : List Int) (w : World) (hx : Rd w so sn sx) (gx : Rd w ao an ax) (gsx : Sl ao an ac) (hy : Rd w uo un sy) (gy : Rd w bo bn ay) (gsy : Sl bo bn bc) (an4 : an ≤ 4096) (bn4 : bn ≤ 4096) (h11 : sn = 0 → an = 1) (h12 : un = 0 → bn = 1) (n : Nat) (l1 : (takL sx ax bn).length = n) (l2 : (takL sy ay an).length = n) (h1 : sn = 0) :
    Calls Try.prog 26 #[.agg #[.slice so sn sc, .slice ao an ac], .agg #[.slice uo un uc, .slice bo bn bc]] w fun e w' => AnsQ w (fun S A => S = [] ∧ A = fbA (fbR (takL sx ax bn) (takL sy ay an) n)) (fbE (fbR (takL sx ax bn) (takL sy ay an) n)) e w' := by
  have D0 := du_startQ w so sn sc ao an ac uo un uc bo bn bc
  have s0 := D0.sz
  obtain ⟨x0, x1, _, _⟩ := box2 D0.x
  obtain ⟨x2, x3, _, _⟩ := box2 D0.y
  have al : ∀ V, DuQ w V so sn sc ao an ac uo un uc bo bn bc → V.cell? ⟨w.heap.size, 0, none⟩ = some (.slice so sn sc) ∧ V.cell? ⟨w.heap.size, 1, none⟩ = some (.slice ao an ac) ∧ V.cell? ⟨w.heap.size + 1, 0, none⟩ = some (.slice uo un uc) ∧ V.cell? ⟨w.heap.size + 1, 1, none⟩ = some (.slice bo bn bc) := fun V D => ⟨(box2 D.x).1, (box2 D.x).2.1, (box2 D.y).1, (box2 D.y).2.1⟩
  have DD : ∀ V, DuQ w V so sn sc ao an ac uo un uc bo bn bc → DuQ w V.drew so sn sc ao an ac uo un uc bo bn bc := fun V D => D.below (B := V.heap.size) (Below.refl _ _).drew D.sz
  have cTx := fun V (D : DuQ w V so sn sc ao an ac uo un uc bo bn bc) => taken_any so ao sn sc an ac bn sx ax V (hx.below D.bel (Nat.le_refl _)) (gx.below D.bel (Nat.le_refl _)) gsx bn4 h11
  have cTy := fun V (D : DuQ w V so sn sc ao an ac uo un uc bo bn bc) => taken_any uo bo un uc bn bc an sy ay V (hy.below D.bel (Nat.le_refl _)) (gy.below D.bel (Nat.le_refl _)) gsy an4 h12
  clear h11 h12
  have HL1 : Hid ((takL sx ax bn).length = n) := l1
  have HL2 : Hid ((takL sy ay an).length = n) := l2
  clear l1 l2
  generalize takL sx ax bn = BS at *
  generalize takL sy ay an = DS at *
  subst h1
  go_enter Try.func26, Try.ntmps26
  go_wp2
  have DB := DD _ D0
  have sB := DB.sz
  go_region_held3 (fun V => V.cell? ⟨w.heap.size, 0, none⟩ = some (.slice so 0 sc) ∧ V.cell? ⟨w.heap.size, 1, none⟩ = some (.slice ao an ac) ∧ V.cell? ⟨w.heap.size + 1, 0, none⟩ = some (.slice uo un uc) ∧ V.cell? ⟨w.heap.size + 1, 1, none⟩ = some (.slice bo bn bc)) (first | exact al _ DB | exact al _ D1 | exact al _ D2)
    (first
      | (go_at_call 36; (with_reducible refine (cTx _ DB).mono ?_); rintro e w1 ⟨o1, n1, c1, rfl, r1, l1, k1⟩; have D1 := DB.below k1 sB; have s1 := D1.sz)
      | (go_at_call 36; (with_reducible refine (cTy _ D1).mono ?_); rintro e w2 ⟨o2, n2, c2, rfl, r2, l2, k2⟩; have D2 := D1.below k2 s1; have s2 := D2.sz))
  have b1 := r1.below k2 (Nat.le_refl _)
  obtain rfl : n1 = n := by rw [← b1.len]; exact HL1.out
  obtain rfl : n2 = n1 := by rw [← r2.len]; exact HL2.out
  have n4 : n2 * 8 ≤ 140737488351232 := b1.room
  clear cTx cTy al DD DB D1 r1 k1 k2 x0 x1 x2 x3 D0 s0 sB s1 HL1 HL2
  have HN1 : Hid (_) := b1.num
  have HN2 : Hid (_) := r2.num
  obtain ⟨q0, q1, q2, q3⟩ := box2 D2.r
  go_wp2
  go_loopw [8, 45] (fun s i V => ∃ (k : Nat) (r : Int), k ≤ n2 ∧ i = .int .i64 (k : Nat) ∧ s = .int .i64 r ∧ fbR BS DS k = some r ∧ Nm.inr r = true ∧ V = w2) (fun _ i _ => n2 - (intOf i).toNat)
  case atStart => exact ⟨0, 0, Nat.zero_le _, rfl, rfl, rfl, rfl, rfl⟩
  case round =>
    obtain ⟨k, r, hk, rfl, rfl, hfr, hir, rfl⟩ := hrel
    have HF : Hid (fbR BS DS k = some r) := hfr
    clear hfr
    by_cases hlt : k < n2
    · have t5 : decide ((k : Int) < (n2 : Int)) = true := by simp; omega
      have bk : (k : Int) < (n2 : Int) := by omega
      obtain ⟨b, off, rfl, hb, hc⟩ := b1.cells (by omega)
      obtain ⟨b', off', rfl, hb', hc'⟩ := r2.cells (by omega)
      have c1 := hc k hlt
      have c2 := hc' k hlt
      have hib : Nm.inr (nth BS k) = true := Nm.inr_iff.2 (HN1.out k hlt)
      have hid : Nm.inr (nth DS k) = true := Nm.inr_iff.2 (HN2.out k hlt)
      have HS : Hid (_) := fbR_succ HF.out
      clear hc hc'
      generalize nth BS k = B at *
      generalize nth DS k = D at *
      have cM := Nm.mul64 r B hir hib wr
      cases hm : Nm.inr (r * B)
      · rw [hm] at cM
        have HNO : Hid (fbR BS DS n2 = none) := by
          refine fbR_none (k := k + 1) ?_ n2 (by omega)
          rw [HS.out, if_neg (by rw [hm]; simp)]
        clear hm hid hib hir
        go_wp2_with (go_at_call 38; (with_reducible refine cM.mono ?_); rintro e w5 ⟨rfl, hw⟩; rw [hw]; clear hw w5)
        (try simp only [Exit.inBlock, Exit.then])
        refine bodyPost_ret (v := .tuple #[.agg #[.slice none 0 0, .slice none 0 0], .int .i64 14]) (by rw [results_cell_tmp rfl]; go_simp) rfl ?_
        rw [HNO.out]
        exact ret0 rfl (below_set2 _ _ _ _ D2.bel (by omega) (Nat.le_refl _))
      · rw [hm, Nm.cut_yes hm] at cM
        have cA := Nm.add64 (r * B) D hm hid wr
        cases ha : Nm.inr (r * B + D)
        · rw [ha] at cA
          have HNO : Hid (fbR BS DS n2 = none) := by
            refine fbR_none (k := k + 1) ?_ n2 (by omega)
            rw [HS.out, if_neg (by rw [ha]; simp)]
          clear hm ha hid hib hir
          generalize r * B = RB at *
          go_wp2_with (first
            | (go_at_call 38; (with_reducible refine cM.mono ?_); rintro e w5 ⟨rfl, hw⟩; rw [hw]; clear hw w5)
            | (go_at_call 39; (with_reducible refine cA.mono ?_); rintro e w5 ⟨rfl, hw⟩; rw [hw]; clear hw w5))
          (try simp only [Exit.inBlock, Exit.then])
          refine bodyPost_ret (v := .tuple #[.agg #[.slice none 0 0, .slice none 0 0], .int .i64 14]) (by rw [results_cell_tmp rfl]; go_simp) rfl ?_
          rw [HNO.out]
          exact ret0 rfl (below_set2 _ _ _ _ D2.bel (by omega) (Nat.le_refl _))
        · rw [ha, Nm.cut_yes ha] at cA
          have HYES : Hid (fbR BS DS (k + 1) = some (r * B + D)) := by show _ = _; rw [HS.out, if_pos ⟨hm, ha⟩]
          have HIA : Hid (Nm.inr (r * B + D) = true) := ha
          clear hm ha hid hib hir HS
          generalize r * B = RB at *
          generalize RB + D = RD at *
          go_wp2_with (first
            | (go_at_call 38; (with_reducible refine cM.mono ?_); rintro e w5 ⟨rfl, hw⟩; rw [hw]; clear hw w5)
            | (go_at_call 39; (with_reducible refine cA.mono ?_); rintro e w5 ⟨rfl, hw⟩; rw [hw]; clear hw w5))
          go_roundw
          case rel => exact ⟨k + 1, RD, by omega, by go_num, rfl, HYES.out, HIA.out, (by first | trivial | rfl)⟩
          case measure => simp [intOf]; omega
    · obtain rfl : k = n2 := by omega
      have t5 : decide ((k : Int) < (k : Int)) = false := by simp
      have hr := Nm.inr_iff.1 hir
      have cS := scalar_any r wr hr.1 hr.2
      clear hir hr
      go_wp2_with (go_at_call 37; (with_reducible refine cS.mono ?_); rintro e w5 ⟨o5, c5, rfl, f5, b5⟩; have D5 := D2.below b5 s2; obtain ⟨q0, q1, q2, q3⟩ := box2 D5.r)
      (try simp only [Exit.inBlock, Exit.then])
      refine bodyPost_ret (v := .tuple #[.agg #[.slice none 0 0, .slice o5 1 c5], .int .i64 0]) (by rw [results_cell_tmp rfl]; go_simp) rfl ?_
      rw [HF.out]
      exact ⟨none, 0, 0, o5, 1, c5, [], [r], rfl, Ft.nil _ _ _, (ft_setQ f5 (by omega) _ _).mono (by omega), ⟨rfl, rfl⟩, below_set2 _ _ _ _ D5.bel (by omega) (Nat.le_refl _)⟩

set_option maxHeartbeats 4000000 in
set_option maxRecDepth 20000 in
theorem fromBase_b (so ao uo bo : Option Addr) (sn sc an ac un uc bn bc : Nat) (sx ax sy ay : List Int) (w : World) (hx : Rd w so sn sx) (gx : Rd w ao an ax) (gsx : Sl ao an ac) (hy : Rd w uo un sy) (gy : Rd w bo bn ay) (gsy : Sl bo bn bc) (an4 : an ≤ 4096) (bn4 : bn ≤ 4096) (h11 : sn = 0 → an = 1) (h12 : un = 0 → bn = 1) (n : Nat) (l1 : (takL sx ax bn).length = n) (l2 : (takL sy ay an).length = n) (h1 : 0 < sn) (h2 : un = 0) :
    Calls Try.prog 26 #[.agg #[.slice so sn sc, .slice ao an ac], .agg #[.slice uo un uc, .slice bo bn bc]] w fun e w' => AnsQ w (fun S A => S = [] ∧ A = fbA (fbR (takL sx ax bn) (takL sy ay an) n)) (fbE (fbR (takL sx ax bn) (takL sy ay an) n)) e w' := by
  have D0 := du_startQ w so sn sc ao an ac uo un uc bo bn bc
  have s0 := D0.sz
  obtain ⟨x0, x1, _, _⟩ := box2 D0.x
  obtain ⟨x2, x3, _, _⟩ := box2 D0.y
  have al : ∀ V, DuQ w V so sn sc ao an ac uo un uc bo bn bc → V.cell? ⟨w.heap.size, 0, none⟩ = some (.slice so sn sc) ∧ V.cell? ⟨w.heap.size, 1, none⟩ = some (.slice ao an ac) ∧ V.cell? ⟨w.heap.size + 1, 0, none⟩ = some (.slice uo un uc) ∧ V.cell? ⟨w.heap.size + 1, 1, none⟩ = some (.slice bo bn bc) := fun V D => ⟨(box2 D.x).1, (box2 D.x).2.1, (box2 D.y).1, (box2 D.y).2.1⟩
  have DD : ∀ V, DuQ w V so sn sc ao an ac uo un uc bo bn bc → DuQ w V.drew so sn sc ao an ac uo un uc bo bn bc := fun V D => D.below (B := V.heap.size) (Below.refl _ _).drew D.sz
  have cTx := fun V (D : DuQ w V so sn sc ao an ac uo un uc bo bn bc) => taken_any so ao sn sc an ac bn sx ax V (hx.below D.bel (Nat.le_refl _)) (gx.below D.bel (Nat.le_refl _)) gsx bn4 h11
  have cTy := fun V (D : DuQ w V so sn sc ao an ac uo un uc bo bn bc) => taken_any uo bo un uc bn bc an sy ay V (hy.below D.bel (Nat.le_refl _)) (gy.below D.bel (Nat.le_refl _)) gsy an4 h12
  clear h11 h12
  have HL1 : Hid ((takL sx ax bn).length = n) := l1
  have HL2 : Hid ((takL sy ay an).length = n) := l2
  clear l1 l2
  generalize takL sx ax bn = BS at *
  generalize takL sy ay an = DS at *
  have t1 : decide (0 < sn) = true := by simpa using h1
  have t1b : (0 : Int) < (sn : Int) := by omega
  subst h2
  go_enter Try.func26, Try.ntmps26
  go_wp2
  have DB := DD _ D0
  have sB := DB.sz
  go_region_held3 (fun V => V.cell? ⟨w.heap.size, 0, none⟩ = some (.slice so sn sc) ∧ V.cell? ⟨w.heap.size, 1, none⟩ = some (.slice ao an ac) ∧ V.cell? ⟨w.heap.size + 1, 0, none⟩ = some (.slice uo 0 uc) ∧ V.cell? ⟨w.heap.size + 1, 1, none⟩ = some (.slice bo bn bc)) (first | exact al _ DB | exact al _ D1 | exact al _ D2)
    (first
      | (go_at_call 36; (with_reducible refine (cTx _ DB).mono ?_); rintro e w1 ⟨o1, n1, c1, rfl, r1, l1, k1⟩; have D1 := DB.below k1 sB; have s1 := D1.sz)
      | (go_at_call 36; (with_reducible refine (cTy _ D1).mono ?_); rintro e w2 ⟨o2, n2, c2, rfl, r2, l2, k2⟩; have D2 := D1.below k2 s1; have s2 := D2.sz))
  have b1 := r1.below k2 (Nat.le_refl _)
  obtain rfl : n1 = n := by rw [← b1.len]; exact HL1.out
  obtain rfl : n2 = n1 := by rw [← r2.len]; exact HL2.out
  have n4 : n2 * 8 ≤ 140737488351232 := b1.room
  clear cTx cTy al DD DB D1 r1 k1 k2 x0 x1 x2 x3 D0 s0 sB s1 HL1 HL2
  have HN1 : Hid (_) := b1.num
  have HN2 : Hid (_) := r2.num
  obtain ⟨q0, q1, q2, q3⟩ := box2 D2.r
  go_wp2
  go_loopw [8, 45] (fun s i V => ∃ (k : Nat) (r : Int), k ≤ n2 ∧ i = .int .i64 (k : Nat) ∧ s = .int .i64 r ∧ fbR BS DS k = some r ∧ Nm.inr r = true ∧ V = w2) (fun _ i _ => n2 - (intOf i).toNat)
  case atStart => exact ⟨0, 0, Nat.zero_le _, rfl, rfl, rfl, rfl, rfl⟩
  case round =>
    obtain ⟨k, r, hk, rfl, rfl, hfr, hir, rfl⟩ := hrel
    have HF : Hid (fbR BS DS k = some r) := hfr
    clear hfr
    by_cases hlt : k < n2
    · have t5 : decide ((k : Int) < (n2 : Int)) = true := by simp; omega
      have bk : (k : Int) < (n2 : Int) := by omega
      obtain ⟨b, off, rfl, hb, hc⟩ := b1.cells (by omega)
      obtain ⟨b', off', rfl, hb', hc'⟩ := r2.cells (by omega)
      have c1 := hc k hlt
      have c2 := hc' k hlt
      have hib : Nm.inr (nth BS k) = true := Nm.inr_iff.2 (HN1.out k hlt)
      have hid : Nm.inr (nth DS k) = true := Nm.inr_iff.2 (HN2.out k hlt)
      have HS : Hid (_) := fbR_succ HF.out
      clear hc hc'
      generalize nth BS k = B at *
      generalize nth DS k = D at *
      have cM := Nm.mul64 r B hir hib wr
      cases hm : Nm.inr (r * B)
      · rw [hm] at cM
        have HNO : Hid (fbR BS DS n2 = none) := by
          refine fbR_none (k := k + 1) ?_ n2 (by omega)
          rw [HS.out, if_neg (by rw [hm]; simp)]
        clear hm hid hib hir
        go_wp2_with (go_at_call 38; (with_reducible refine cM.mono ?_); rintro e w5 ⟨rfl, hw⟩; rw [hw]; clear hw w5)
        (try simp only [Exit.inBlock, Exit.then])
        refine bodyPost_ret (v := .tuple #[.agg #[.slice none 0 0, .slice none 0 0], .int .i64 14]) (by rw [results_cell_tmp rfl]; go_simp) rfl ?_
        rw [HNO.out]
        exact ret0 rfl (below_set2 _ _ _ _ D2.bel (by omega) (Nat.le_refl _))
      · rw [hm, Nm.cut_yes hm] at cM
        have cA := Nm.add64 (r * B) D hm hid wr
        cases ha : Nm.inr (r * B + D)
        · rw [ha] at cA
          have HNO : Hid (fbR BS DS n2 = none) := by
            refine fbR_none (k := k + 1) ?_ n2 (by omega)
            rw [HS.out, if_neg (by rw [ha]; simp)]
          clear hm ha hid hib hir
          generalize r * B = RB at *
          go_wp2_with (first
            | (go_at_call 38; (with_reducible refine cM.mono ?_); rintro e w5 ⟨rfl, hw⟩; rw [hw]; clear hw w5)
            | (go_at_call 39; (with_reducible refine cA.mono ?_); rintro e w5 ⟨rfl, hw⟩; rw [hw]; clear hw w5))
          (try simp only [Exit.inBlock, Exit.then])
          refine bodyPost_ret (v := .tuple #[.agg #[.slice none 0 0, .slice none 0 0], .int .i64 14]) (by rw [results_cell_tmp rfl]; go_simp) rfl ?_
          rw [HNO.out]
          exact ret0 rfl (below_set2 _ _ _ _ D2.bel (by omega) (Nat.le_refl _))
        · rw [ha, Nm.cut_yes ha] at cA
          have HYES : Hid (fbR BS DS (k + 1) = some (r * B + D)) := by show _ = _; rw [HS.out, if_pos ⟨hm, ha⟩]
          have HIA : Hid (Nm.inr (r * B + D) = true) := ha
          clear hm ha hid hib hir HS
          generalize r * B = RB at *
          generalize RB + D = RD at *
          go_wp2_with (first
            | (go_at_call 38; (with_reducible refine cM.mono ?_); rintro e w5 ⟨rfl, hw⟩; rw [hw]; clear hw w5)
            | (go_at_call 39; (with_reducible refine cA.mono ?_); rintro e w5 ⟨rfl, hw⟩; rw [hw]; clear hw w5))
          go_roundw
          case rel => exact ⟨k + 1, RD, by omega, by go_num, rfl, HYES.out, HIA.out, (by first | trivial | rfl)⟩
          case measure => simp [intOf]; omega
    · obtain rfl : k = n2 := by omega
      have t5 : decide ((k : Int) < (k : Int)) = false := by simp
      have hr := Nm.inr_iff.1 hir
      have cS := scalar_any r wr hr.1 hr.2
      clear hir hr
      go_wp2_with (go_at_call 37; (with_reducible refine cS.mono ?_); rintro e w5 ⟨o5, c5, rfl, f5, b5⟩; have D5 := D2.below b5 s2; obtain ⟨q0, q1, q2, q3⟩ := box2 D5.r)
      (try simp only [Exit.inBlock, Exit.then])
      refine bodyPost_ret (v := .tuple #[.agg #[.slice none 0 0, .slice o5 1 c5], .int .i64 0]) (by rw [results_cell_tmp rfl]; go_simp) rfl ?_
      rw [HF.out]
      exact ⟨none, 0, 0, o5, 1, c5, [], [r], rfl, Ft.nil _ _ _, (ft_setQ f5 (by omega) _ _).mono (by omega), ⟨rfl, rfl⟩, below_set2 _ _ _ _ D5.bel (by omega) (Nat.le_refl _)⟩

set_option maxHeartbeats 4000000 in
set_option maxRecDepth 20000 in
theorem fromBase_c (so ao uo bo : Option Addr) (sn sc an ac un uc bn bc : Nat) (sx ax sy ay : List Int) (w : World) (hx : Rd w so sn sx) (gx : Rd w ao an ax) (gsx : Sl ao an ac) (hy : Rd w uo un sy) (gy : Rd w bo bn ay) (gsy : Sl bo bn bc) (an4 : an ≤ 4096) (bn4 : bn ≤ 4096) (h11 : sn = 0 → an = 1) (h12 : un = 0 → bn = 1) (n : Nat) (l1 : (takL sx ax bn).length = n) (l2 : (takL sy ay an).length = n) (h1 : 0 < sn) (h2 : 0 < un) (h3 : an = bn) :
    Calls Try.prog 26 #[.agg #[.slice so sn sc, .slice ao an ac], .agg #[.slice uo un uc, .slice bo bn bc]] w fun e w' => AnsQ w (fun S A => S = [] ∧ A = fbA (fbR (takL sx ax bn) (takL sy ay an) n)) (fbE (fbR (takL sx ax bn) (takL sy ay an) n)) e w' := by
  have D0 := du_startQ w so sn sc ao an ac uo un uc bo bn bc
  have s0 := D0.sz
  obtain ⟨x0, x1, _, _⟩ := box2 D0.x
  obtain ⟨x2, x3, _, _⟩ := box2 D0.y
  have al : ∀ V, DuQ w V so sn sc ao an ac uo un uc bo bn bc → V.cell? ⟨w.heap.size, 0, none⟩ = some (.slice so sn sc) ∧ V.cell? ⟨w.heap.size, 1, none⟩ = some (.slice ao an ac) ∧ V.cell? ⟨w.heap.size + 1, 0, none⟩ = some (.slice uo un uc) ∧ V.cell? ⟨w.heap.size + 1, 1, none⟩ = some (.slice bo bn bc) := fun V D => ⟨(box2 D.x).1, (box2 D.x).2.1, (box2 D.y).1, (box2 D.y).2.1⟩
  have DD : ∀ V, DuQ w V so sn sc ao an ac uo un uc bo bn bc → DuQ w V.drew so sn sc ao an ac uo un uc bo bn bc := fun V D => D.below (B := V.heap.size) (Below.refl _ _).drew D.sz
  have cTx := fun V (D : DuQ w V so sn sc ao an ac uo un uc bo bn bc) => taken_any so ao sn sc an ac bn sx ax V (hx.below D.bel (Nat.le_refl _)) (gx.below D.bel (Nat.le_refl _)) gsx bn4 h11
  have cTy := fun V (D : DuQ w V so sn sc ao an ac uo un uc bo bn bc) => taken_any uo bo un uc bn bc an sy ay V (hy.below D.bel (Nat.le_refl _)) (gy.below D.bel (Nat.le_refl _)) gsy an4 h12
  clear h11 h12
  have HL1 : Hid ((takL sx ax bn).length = n) := l1
  have HL2 : Hid ((takL sy ay an).length = n) := l2
  clear l1 l2
  generalize takL sx ax bn = BS at *
  generalize takL sy ay an = DS at *
  have t1 : decide (0 < sn) = true := by simpa using h1
  have t1b : (0 : Int) < (sn : Int) := by omega
  have t2 : decide (0 < un) = true := by simpa using h2
  have t2b : (0 : Int) < (un : Int) := by omega
  have t3 : ((an : Int) != (bn : Int)) = false := by simp; omega
  have t3b : (an != bn) = false := by simpa using h3
  clear h3
  go_enter Try.func26, Try.ntmps26
  go_wp2
  have DB := DD _ D0
  have sB := DB.sz
  go_region_held3 (fun V => V.cell? ⟨w.heap.size, 0, none⟩ = some (.slice so sn sc) ∧ V.cell? ⟨w.heap.size, 1, none⟩ = some (.slice ao an ac) ∧ V.cell? ⟨w.heap.size + 1, 0, none⟩ = some (.slice uo un uc) ∧ V.cell? ⟨w.heap.size + 1, 1, none⟩ = some (.slice bo bn bc)) (first | exact al _ DB | exact al _ D1 | exact al _ D2)
    (first
      | (go_at_call 36; (with_reducible refine (cTx _ DB).mono ?_); rintro e w1 ⟨o1, n1, c1, rfl, r1, l1, k1⟩; have D1 := DB.below k1 sB; have s1 := D1.sz)
      | (go_at_call 36; (with_reducible refine (cTy _ D1).mono ?_); rintro e w2 ⟨o2, n2, c2, rfl, r2, l2, k2⟩; have D2 := D1.below k2 s1; have s2 := D2.sz))
  have b1 := r1.below k2 (Nat.le_refl _)
  obtain rfl : n1 = n := by rw [← b1.len]; exact HL1.out
  obtain rfl : n2 = n1 := by rw [← r2.len]; exact HL2.out
  have n4 : n2 * 8 ≤ 140737488351232 := b1.room
  clear cTx cTy al DD DB D1 r1 k1 k2 x0 x1 x2 x3 D0 s0 sB s1 HL1 HL2
  have HN1 : Hid (_) := b1.num
  have HN2 : Hid (_) := r2.num
  obtain ⟨q0, q1, q2, q3⟩ := box2 D2.r
  go_wp2
  go_loopw [8, 45] (fun s i V => ∃ (k : Nat) (r : Int), k ≤ n2 ∧ i = .int .i64 (k : Nat) ∧ s = .int .i64 r ∧ fbR BS DS k = some r ∧ Nm.inr r = true ∧ V = w2) (fun _ i _ => n2 - (intOf i).toNat)
  case atStart => exact ⟨0, 0, Nat.zero_le _, rfl, rfl, rfl, rfl, rfl⟩
  case round =>
    obtain ⟨k, r, hk, rfl, rfl, hfr, hir, rfl⟩ := hrel
    have HF : Hid (fbR BS DS k = some r) := hfr
    clear hfr
    by_cases hlt : k < n2
    · have t5 : decide ((k : Int) < (n2 : Int)) = true := by simp; omega
      have bk : (k : Int) < (n2 : Int) := by omega
      obtain ⟨b, off, rfl, hb, hc⟩ := b1.cells (by omega)
      obtain ⟨b', off', rfl, hb', hc'⟩ := r2.cells (by omega)
      have c1 := hc k hlt
      have c2 := hc' k hlt
      have hib : Nm.inr (nth BS k) = true := Nm.inr_iff.2 (HN1.out k hlt)
      have hid : Nm.inr (nth DS k) = true := Nm.inr_iff.2 (HN2.out k hlt)
      have HS : Hid (_) := fbR_succ HF.out
      clear hc hc'
      generalize nth BS k = B at *
      generalize nth DS k = D at *
      have cM := Nm.mul64 r B hir hib wr
      cases hm : Nm.inr (r * B)
      · rw [hm] at cM
        have HNO : Hid (fbR BS DS n2 = none) := by
          refine fbR_none (k := k + 1) ?_ n2 (by omega)
          rw [HS.out, if_neg (by rw [hm]; simp)]
        clear hm hid hib hir
        go_wp2_with (go_at_call 38; (with_reducible refine cM.mono ?_); rintro e w5 ⟨rfl, hw⟩; rw [hw]; clear hw w5)
        (try simp only [Exit.inBlock, Exit.then])
        refine bodyPost_ret (v := .tuple #[.agg #[.slice none 0 0, .slice none 0 0], .int .i64 14]) (by rw [results_cell_tmp rfl]; go_simp) rfl ?_
        rw [HNO.out]
        exact ret0 rfl (below_set2 _ _ _ _ D2.bel (by omega) (Nat.le_refl _))
      · rw [hm, Nm.cut_yes hm] at cM
        have cA := Nm.add64 (r * B) D hm hid wr
        cases ha : Nm.inr (r * B + D)
        · rw [ha] at cA
          have HNO : Hid (fbR BS DS n2 = none) := by
            refine fbR_none (k := k + 1) ?_ n2 (by omega)
            rw [HS.out, if_neg (by rw [ha]; simp)]
          clear hm ha hid hib hir
          generalize r * B = RB at *
          go_wp2_with (first
            | (go_at_call 38; (with_reducible refine cM.mono ?_); rintro e w5 ⟨rfl, hw⟩; rw [hw]; clear hw w5)
            | (go_at_call 39; (with_reducible refine cA.mono ?_); rintro e w5 ⟨rfl, hw⟩; rw [hw]; clear hw w5))
          (try simp only [Exit.inBlock, Exit.then])
          refine bodyPost_ret (v := .tuple #[.agg #[.slice none 0 0, .slice none 0 0], .int .i64 14]) (by rw [results_cell_tmp rfl]; go_simp) rfl ?_
          rw [HNO.out]
          exact ret0 rfl (below_set2 _ _ _ _ D2.bel (by omega) (Nat.le_refl _))
        · rw [ha, Nm.cut_yes ha] at cA
          have HYES : Hid (fbR BS DS (k + 1) = some (r * B + D)) := by show _ = _; rw [HS.out, if_pos ⟨hm, ha⟩]
          have HIA : Hid (Nm.inr (r * B + D) = true) := ha
          clear hm ha hid hib hir HS
          generalize r * B = RB at *
          generalize RB + D = RD at *
          go_wp2_with (first
            | (go_at_call 38; (with_reducible refine cM.mono ?_); rintro e w5 ⟨rfl, hw⟩; rw [hw]; clear hw w5)
            | (go_at_call 39; (with_reducible refine cA.mono ?_); rintro e w5 ⟨rfl, hw⟩; rw [hw]; clear hw w5))
          go_roundw
          case rel => exact ⟨k + 1, RD, by omega, by go_num, rfl, HYES.out, HIA.out, (by first | trivial | rfl)⟩
          case measure => simp [intOf]; omega
    · obtain rfl : k = n2 := by omega
      have t5 : decide ((k : Int) < (k : Int)) = false := by simp
      have hr := Nm.inr_iff.1 hir
      have cS := scalar_any r wr hr.1 hr.2
      clear hir hr
      go_wp2_with (go_at_call 37; (with_reducible refine cS.mono ?_); rintro e w5 ⟨o5, c5, rfl, f5, b5⟩; have D5 := D2.below b5 s2; obtain ⟨q0, q1, q2, q3⟩ := box2 D5.r)
      (try simp only [Exit.inBlock, Exit.then])
      refine bodyPost_ret (v := .tuple #[.agg #[.slice none 0 0, .slice o5 1 c5], .int .i64 0]) (by rw [results_cell_tmp rfl]; go_simp) rfl ?_
      rw [HF.out]
      exact ⟨none, 0, 0, o5, 1, c5, [], [r], rfl, Ft.nil _ _ _, (ft_setQ f5 (by omega) _ _).mono (by omega), ⟨rfl, rfl⟩, below_set2 _ _ _ _ D5.bel (by omega) (Nat.le_refl _)⟩

/-- How many digits are taken. -/
def fbN (sx sy ax ay : List Int) : Nat := (takL sx ax ay.length).length
theorem fbN_eq {sx ax sy ay : List Int} (mx : mayA sx ax = 0) (my : mayA sy ay = 0) (hl : sx.length = 0 ∨ sy.length = 0 ∨ ax.length = ay.length) : (takL sy ay ax.length).length = fbN sx sy ax ay := by
  unfold fbN
  rw [takL_len, takL_len]
  by_cases a : sx.length = 0
  · have := one_len mx a
    rw [if_pos a, this]
    by_cases b : sy.length = 0
    · rw [if_pos b]; omega
    · rw [if_neg b]; omega
  · rw [if_neg a]
    by_cases b : sy.length = 0
    · have := one_len my b
      rw [if_pos b, this]; omega
    · rw [if_neg b]; rcases hl with h | h | h <;> omega
theorem fromBase_any (so ao uo bo : Option Addr) (sn sc an ac un uc bn bc : Nat) (sx ax sy ay : List Int) (w : World) (hx : Rd w so sn sx) (gx : Rd w ao an ax) (gsx : Sl ao an ac) (hy : Rd w uo un sy) (gy : Rd w bo bn ay) (gsy : Sl bo bn bc) (mx : mayA sx ax = 0) (my : mayA sy ay = 0) (hl : sx.length = 0 ∨ sy.length = 0 ∨ ax.length = ay.length) :
    Calls Try.prog 26 #[.agg #[.slice so sn sc, .slice ao an ac], .agg #[.slice uo un uc, .slice bo bn bc]] w fun e w' => AnsQ w (fun S A => S = [] ∧ A = fbA (fbR (takL sx ax ay.length) (takL sy ay ax.length) (fbN sx sy ax ay))) (fbE (fbR (takL sx ax ay.length) (takL sy ay ax.length) (fbN sx sy ax ay))) e w' := by
  have Lx := hx.len
  have Ax := gx.len
  have Ly := hy.len
  have Ay := gy.len
  have x4 := atoms_le mx
  have y4 := atoms_le my
  have o1 : sn = 0 → an = 1 := fun h => by have := one_len mx (by omega); omega
  have o2 : un = 0 → bn = 1 := fun h => by have := one_len my (by omega); omega
  have l2 := fbN_eq mx my hl
  have l1 : (takL sx ax ay.length).length = fbN sx sy ax ay := rfl
  generalize fbN sx sy ax ay = n at *
  rw [Ax] at l2
  rw [Ay] at l1
  rw [Ax, Ay]
  by_cases a : sn = 0
  · exact fromBase_a so ao uo bo sn sc an ac un uc bn bc sx ax sy ay w hx gx gsx hy gy gsy (by omega) (by omega) o1 o2 n l1 l2 a
  · by_cases b : un = 0
    · exact fromBase_b so ao uo bo sn sc an ac un uc bn bc sx ax sy ay w hx gx gsx hy gy gsy (by omega) (by omega) o1 o2 n l1 l2 (by omega) b
    · exact fromBase_c so ao uo bo sn sc an ac un uc bn bc sx ax sy ay w hx gx gsx hy gy gsy (by omega) (by omega) o1 o2 n l1 l2 (by omega) (by omega) (by rcases hl with h | h | h <;> omega)
end Go.Proofs.Ytjnlkdeiccllgaa
