
/- Contracts of package digit: Monad, Dyad and Has. -/

import Derived.Test.YtelcagfaflpolaaGreatZI
import Derived.Test.YtelcagfaflpolaaGreatIndices
import Derived.Test.YtelcagfaflpolaaGreatLoop
import Derived.Laws.EntriesVeiled
import Derived.RangeFuncBound

namespace Go.Proofs.YtelcagfaflpolaaGreat

open Go.RowKit

set_option linter.unusedVariables false

/-- The first k digits put together, if nothing leaves 64 bits. -/
def fbR (bs ds : List Int) : Nat → Option Int
  | 0 => some 0
  | k + 1 => match fbR bs ds k with
    | none => none
    | some r => if Nm.inr (r * nth bs k) = true ∧ Nm.inr (r * nth bs k + nth ds k) = true then some (r * nth bs k + nth ds k) else none
theorem fbR_succ {bs ds : List Int} {k : Nat} {r : Int} (h : fbR bs ds k = some r) : fbR bs ds (k + 1) = if Nm.inr (r * nth bs k) = true ∧ Nm.inr (r * nth bs k + nth ds k) = true then some (r * nth bs k + nth ds k) else none := by
  rw [fbR, h]
theorem fbR_none {bs ds : List Int} {k : Nat} (h : fbR bs ds k = none) : ∀ n, k ≤ n → fbR bs ds n = none
  | 0, hn => by obtain rfl : k = 0 := by omega
                exact h
  | n + 1, hn => by
    by_cases e : k = n + 1
    · rw [← e]; exact h
    · rw [fbR, fbR_none h n (by omega)]
def fbE (o : Option Int) : Int := match o with | none => 14 | some _ => 0
def fbA (o : Option Int) : List Int := match o with | none => [] | some r => [r]

set_option maxHeartbeats 4000000 in
set_option maxRecDepth 20000 in
theorem fromBase_a (so ao uo bo : Option Addr) (sn sc an ac un uc bn bc : Nat) (sx ax sy ay : List Int) (w : World) (hx : Rd w so sn sx) (gx : Rd w ao an ax) (gsx : Sl ao an ac) (hy : Rd w uo un sy) (gy : Rd w bo bn ay) (gsy : Sl bo bn bc) (an4 : an ≤ 4096) (bn4 : bn ≤ 4096) (h11 : sn = 0 → an = 1) (h12 : un = 0 → bn = 1) (n : Nat) (l1 : (takL sx ax bn).length = n) (l2 : (takL sy ay an).length = n) (h1 : sn = 0) :
    Calls Tryz.prog 147 #[.agg #[.slice so sn sc, .slice ao an ac], .agg #[.slice uo un uc, .slice bo bn bc]] w fun e w' => AnsZ w (fun S A => S = [] ∧ A = fbA (fbR (takL sx ax bn) (takL sy ay an) n)) (fbE (fbR (takL sx ax bn) (takL sy ay an) n)) e w' := by
  have D0 := du_startZ w so sn sc ao an ac uo un uc bo bn bc
  have s0 := D0.sz
  obtain ⟨x0, x1, _, _⟩ := box2 D0.x
  obtain ⟨x2, x3, _, _⟩ := box2 D0.y
  have al : ∀ V, DuZ w V so sn sc ao an ac uo un uc bo bn bc → V.cell? ⟨w.heap.size, 0, none⟩ = some (.slice so sn sc) ∧ V.cell? ⟨w.heap.size, 1, none⟩ = some (.slice ao an ac) ∧ V.cell? ⟨w.heap.size + 1, 0, none⟩ = some (.slice uo un uc) ∧ V.cell? ⟨w.heap.size + 1, 1, none⟩ = some (.slice bo bn bc) := fun V D => ⟨(box2 D.x).1, (box2 D.x).2.1, (box2 D.y).1, (box2 D.y).2.1⟩
  have DD : ∀ V, DuZ w V so sn sc ao an ac uo un uc bo bn bc → DuZ w V.drew so sn sc ao an ac uo un uc bo bn bc := fun V D => D.below (B := V.heap.size) (Below.refl _ _).drew D.sz
  have cTx := fun V (D : DuZ w V so sn sc ao an ac uo un uc bo bn bc) => taken_any so ao sn sc an ac bn sx ax V (hx.below D.bel (Nat.le_refl _)) (gx.below D.bel (Nat.le_refl _)) gsx bn4 h11
  have cTy := fun V (D : DuZ w V so sn sc ao an ac uo un uc bo bn bc) => taken_any uo bo un uc bn bc an sy ay V (hy.below D.bel (Nat.le_refl _)) (gy.below D.bel (Nat.le_refl _)) gsy an4 h12
  clear h11 h12
  have HL1 : Hid ((takL sx ax bn).length = n) := l1
  have HL2 : Hid ((takL sy ay an).length = n) := l2
  clear l1 l2
  generalize takL sx ax bn = BS at *
  generalize takL sy ay an = DS at *
  subst h1
  go_enter Tryz.func147, Tryz.ntmps147
  go_wp2
  have DB := DD _ D0
  have sB := DB.sz
  go_region_held3 (fun V => V.cell? ⟨w.heap.size, 0, none⟩ = some (.slice so 0 sc) ∧ V.cell? ⟨w.heap.size, 1, none⟩ = some (.slice ao an ac) ∧ V.cell? ⟨w.heap.size + 1, 0, none⟩ = some (.slice uo un uc) ∧ V.cell? ⟨w.heap.size + 1, 1, none⟩ = some (.slice bo bn bc)) (first | exact al _ DB | exact al _ D1 | exact al _ D2)
    (first
      | (go_at_call 195; (with_reducible refine (cTx _ DB).mono ?_); rintro e w1 ⟨o1, n1, c1, rfl, r1, l1, k1⟩; have D1 := DB.below k1 sB; have s1 := D1.sz)
      | (go_at_call 195; (with_reducible refine (cTy _ D1).mono ?_); rintro e w2 ⟨o2, n2, c2, rfl, r2, l2, k2⟩; have D2 := D1.below k2 s1; have s2 := D2.sz))
  have b1 := r1.below k2 (Nat.le_refl _)
  obtain rfl : n1 = n := by rw [← b1.len]; exact HL1.out
  obtain rfl : n2 = n1 := by rw [← r2.len]; exact HL2.out
  have n4 : n2 * 8 ≤ 140737488351232 := b1.room
  clear cTx cTy al DD DB D1 r1 k1 k2 x0 x1 x2 x3 D0 s0 sB s1 HL1 HL2
  have HN1 : Hid (_) := b1.num
  have HN2 : Hid (_) := r2.num
  obtain ⟨q0, q1, q2, q3⟩ := box2 D2.r
  go_wp2
  go_loopw [8, 45] (fun s i V => ∃ (k : Nat) (r : Int), k ≤ n2 ∧ i = .int .i64 (k : Nat) ∧ s = .int .i64 r ∧ fbR BS DS k = some r ∧ Nm.inr r = true ∧ V = w2) (fun _ i _ => n2 - (intOf i).toNat)
  case atStart => exact ⟨0, 0, Nat.zero_le _, rfl, rfl, rfl, rfl, rfl⟩
  case round =>
    obtain ⟨k, r, hk, rfl, rfl, hfr, hir, rfl⟩ := hrel
    have HF : Hid (fbR BS DS k = some r) := hfr
    clear hfr
    by_cases hlt : k < n2
    · have t5 : decide ((k : Int) < (n2 : Int)) = true := by simp; omega
      have bk : (k : Int) < (n2 : Int) := by omega
      obtain ⟨b, off, rfl, hb, hc⟩ := b1.cells (by omega)
      obtain ⟨b', off', rfl, hb', hc'⟩ := r2.cells (by omega)
      have c1 := hc k hlt
      have c2 := hc' k hlt
      have hib : Nm.inr (nth BS k) = true := Nm.inr_iff.2 (HN1.out k hlt)
      have hid : Nm.inr (nth DS k) = true := Nm.inr_iff.2 (HN2.out k hlt)
      have HS : Hid (_) := fbR_succ HF.out
      clear hc hc'
      generalize nth BS k = B at *
      generalize nth DS k = D at *
      have cM := Nm.mul64 r B hir hib wr
      cases hm : Nm.inr (r * B)
      · rw [hm] at cM
        have HNO : Hid (fbR BS DS n2 = none) := by
          refine fbR_none (k := k + 1) ?_ n2 (by omega)
          rw [HS.out, if_neg (by rw [hm]; simp)]
        clear hm hid hib hir
        go_wp2_with (go_at_call 107; (with_reducible refine cM.mono ?_); rintro e w5 ⟨rfl, hw⟩; rw [hw]; clear hw w5)
        (try simp only [Exit.inBlock, Exit.then])
        refine bodyPost_ret (v := .tuple #[.agg #[.slice none 0 0, .slice none 0 0], .int .i64 14]) (by rw [results_cell_tmp rfl]; go_simp) rfl ?_
        rw [HNO.out]
        exact ret0 rfl (below_set2 _ _ _ _ D2.bel (by omega) (Nat.le_refl _))
      · rw [hm, Nm.cut_yes hm] at cM
        have cA := Nm.add64 (r * B) D hm hid wr
        cases ha : Nm.inr (r * B + D)
        · rw [ha] at cA
          have HNO : Hid (fbR BS DS n2 = none) := by
            refine fbR_none (k := k + 1) ?_ n2 (by omega)
            rw [HS.out, if_neg (by rw [ha]; simp)]
          clear hm ha hid hib hir
          generalize r * B = RB at *
          go_wp2_with (first
            | (go_at_call 107; (with_reducible refine cM.mono ?_); rintro e w5 ⟨rfl, hw⟩; rw [hw]; clear hw w5)
            | (go_at_call 106; (with_reducible refine cA.mono ?_); rintro e w5 ⟨rfl, hw⟩; rw [hw]; clear hw w5))
          (try simp only [Exit.inBlock, Exit.then])
          refine bodyPost_ret (v := .tuple #[.agg #[.slice none 0 0, .slice none 0 0], .int .i64 14]) (by rw [results_cell_tmp rfl]; go_simp) rfl ?_
          rw [HNO.out]
          exact ret0 rfl (below_set2 _ _ _ _ D2.bel (by omega) (Nat.le_refl _))
        · rw [ha, Nm.cut_yes ha] at cA
          have HYES : Hid (fbR BS DS (k + 1) = some (r * B + D)) := by show _ = _; rw [HS.out, if_pos ⟨hm, ha⟩]
          have HIA : Hid (Nm.inr (r * B + D) = true) := ha
          clear hm ha hid hib hir HS
          generalize r * B = RB at *
          generalize RB + D = RD at *
          go_wp2_with (first
            | (go_at_call 107; (with_reducible refine cM.mono ?_); rintro e w5 ⟨rfl, hw⟩; rw [hw]; clear hw w5)
            | (go_at_call 106; (with_reducible refine cA.mono ?_); rintro e w5 ⟨rfl, hw⟩; rw [hw]; clear hw w5))
          go_roundw
          case rel => exact ⟨k + 1, RD, by omega, by go_num, rfl, HYES.out, HIA.out, (by first | trivial | rfl)⟩
          case measure => simp [intOf]; omega
    · obtain rfl : k = n2 := by omega
      have t5 : decide ((k : Int) < (k : Int)) = false := by simp
      have hr := Nm.inr_iff.1 hir
      have cS := scalar_any r wr hr.1 hr.2
      clear hir hr
      go_wp2_with (go_at_call 180; (with_reducible refine cS.mono ?_); rintro e w5 ⟨o5, c5, rfl, f5, b5⟩; have D5 := D2.below b5 s2; obtain ⟨q0, q1, q2, q3⟩ := box2 D5.r)
      (try simp only [Exit.inBlock, Exit.then])
      refine bodyPost_ret (v := .tuple #[.agg #[.slice none 0 0, .slice o5 1 c5], .int .i64 0]) (by rw [results_cell_tmp rfl]; go_simp) rfl ?_
      rw [HF.out]
      exact ⟨none, 0, 0, o5, 1, c5, [], [r], rfl, Ft.nil _ _ _, (ft_setZ f5 (by omega) _ _).mono (by omega), ⟨rfl, rfl⟩, below_set2 _ _ _ _ D5.bel (by omega) (Nat.le_refl _)⟩

set_option maxHeartbeats 4000000 in
set_option maxRecDepth 20000 in
theorem fromBase_b (so ao uo bo : Option Addr) (sn sc an ac un uc bn bc : Nat) (sx ax sy ay : List Int) (w : World) (hx : Rd w so sn sx) (gx : Rd w ao an ax) (gsx : Sl ao an ac) (hy : Rd w uo un sy) (gy : Rd w bo bn ay) (gsy : Sl bo bn bc) (an4 : an ≤ 4096) (bn4 : bn ≤ 4096) (h11 : sn = 0 → an = 1) (h12 : un = 0 → bn = 1) (n : Nat) (l1 : (takL sx ax bn).length = n) (l2 : (takL sy ay an).length = n) (h1 : 0 < sn) (h2 : un = 0) :
    Calls Tryz.prog 147 #[.agg #[.slice so sn sc, .slice ao an ac], .agg #[.slice uo un uc, .slice bo bn bc]] w fun e w' => AnsZ w (fun S A => S = [] ∧ A = fbA (fbR (takL sx ax bn) (takL sy ay an) n)) (fbE (fbR (takL sx ax bn) (takL sy ay an) n)) e w' := by
  have D0 := du_startZ w so sn sc ao an ac uo un uc bo bn bc
  have s0 := D0.sz
  obtain ⟨x0, x1, _, _⟩ := box2 D0.x
  obtain ⟨x2, x3, _, _⟩ := box2 D0.y
  have al : ∀ V, DuZ w V so sn sc ao an ac uo un uc bo bn bc → V.cell? ⟨w.heap.size, 0, none⟩ = some (.slice so sn sc) ∧ V.cell? ⟨w.heap.size, 1, none⟩ = some (.slice ao an ac) ∧ V.cell? ⟨w.heap.size + 1, 0, none⟩ = some (.slice uo un uc) ∧ V.cell? ⟨w.heap.size + 1, 1, none⟩ = some (.slice bo bn bc) := fun V D => ⟨(box2 D.x).1, (box2 D.x).2.1, (box2 D.y).1, (box2 D.y).2.1⟩
  have DD : ∀ V, DuZ w V so sn sc ao an ac uo un uc bo bn bc → DuZ w V.drew so sn sc ao an ac uo un uc bo bn bc := fun V D => D.below (B := V.heap.size) (Below.refl _ _).drew D.sz
  have cTx := fun V (D : DuZ w V so sn sc ao an ac uo un uc bo bn bc) => taken_any so ao sn sc an ac bn sx ax V (hx.below D.bel (Nat.le_refl _)) (gx.below D.bel (Nat.le_refl _)) gsx bn4 h11
  have cTy := fun V (D : DuZ w V so sn sc ao an ac uo un uc bo bn bc) => taken_any uo bo un uc bn bc an sy ay V (hy.below D.bel (Nat.le_refl _)) (gy.below D.bel (Nat.le_refl _)) gsy an4 h12
  clear h11 h12
  have HL1 : Hid ((takL sx ax bn).length = n) := l1
  have HL2 : Hid ((takL sy ay an).length = n) := l2
  clear l1 l2
  generalize takL sx ax bn = BS at *
  generalize takL sy ay an = DS at *
  have t1 : decide (0 < sn) = true := by simpa using h1
  have t1b : (0 : Int) < (sn : Int) := by omega
  subst h2
  go_enter Tryz.func147, Tryz.ntmps147
  go_wp2
  have DB := DD _ D0
  have sB := DB.sz
  go_region_held3 (fun V => V.cell? ⟨w.heap.size, 0, none⟩ = some (.slice so sn sc) ∧ V.cell? ⟨w.heap.size, 1, none⟩ = some (.slice ao an ac) ∧ V.cell? ⟨w.heap.size + 1, 0, none⟩ = some (.slice uo 0 uc) ∧ V.cell? ⟨w.heap.size + 1, 1, none⟩ = some (.slice bo bn bc)) (first | exact al _ DB | exact al _ D1 | exact al _ D2)
    (first
      | (go_at_call 195; (with_reducible refine (cTx _ DB).mono ?_); rintro e w1 ⟨o1, n1, c1, rfl, r1, l1, k1⟩; have D1 := DB.below k1 sB; have s1 := D1.sz)
      | (go_at_call 195; (with_reducible refine (cTy _ D1).mono ?_); rintro e w2 ⟨o2, n2, c2, rfl, r2, l2, k2⟩; have D2 := D1.below k2 s1; have s2 := D2.sz))
  have b1 := r1.below k2 (Nat.le_refl _)
  obtain rfl : n1 = n := by rw [← b1.len]; exact HL1.out
  obtain rfl : n2 = n1 := by rw [← r2.len]; exact HL2.out
  have n4 : n2 * 8 ≤ 140737488351232 := b1.room
  clear cTx cTy al DD DB D1 r1 k1 k2 x0 x1 x2 x3 D0 s0 sB s1 HL1 HL2
  have HN1 : Hid (_) := b1.num
  have HN2 : Hid (_) := r2.num
  obtain ⟨q0, q1, q2, q3⟩ := box2 D2.r
  go_wp2
  go_loopw [8, 45] (fun s i V => ∃ (k : Nat) (r : Int), k ≤ n2 ∧ i = .int .i64 (k : Nat) ∧ s = .int .i64 r ∧ fbR BS DS k = some r ∧ Nm.inr r = true ∧ V = w2) (fun _ i _ => n2 - (intOf i).toNat)
  case atStart => exact ⟨0, 0, Nat.zero_le _, rfl, rfl, rfl, rfl, rfl⟩
  case round =>
    obtain ⟨k, r, hk, rfl, rfl, hfr, hir, rfl⟩ := hrel
    have HF : Hid (fbR BS DS k = some r) := hfr
    clear hfr
    by_cases hlt : k < n2
    · have t5 : decide ((k : Int) < (n2 : Int)) = true := by simp; omega
      have bk : (k : Int) < (n2 : Int) := by omega
      obtain ⟨b, off, rfl, hb, hc⟩ := b1.cells (by omega)
      obtain ⟨b', off', rfl, hb', hc'⟩ := r2.cells (by omega)
      have c1 := hc k hlt
      have c2 := hc' k hlt
      have hib : Nm.inr (nth BS k) = true := Nm.inr_iff.2 (HN1.out k hlt)
      have hid : Nm.inr (nth DS k) = true := Nm.inr_iff.2 (HN2.out k hlt)
      have HS : Hid (_) := fbR_succ HF.out
      clear hc hc'
      generalize nth BS k = B at *
      generalize nth DS k = D at *
      have cM := Nm.mul64 r B hir hib wr
      cases hm : Nm.inr (r * B)
      · rw [hm] at cM
        have HNO : Hid (fbR BS DS n2 = none) := by
          refine fbR_none (k := k + 1) ?_ n2 (by omega)
          rw [HS.out, if_neg (by rw [hm]; simp)]
        clear hm hid hib hir
        go_wp2_with (go_at_call 107; (with_reducible refine cM.mono ?_); rintro e w5 ⟨rfl, hw⟩; rw [hw]; clear hw w5)
        (try simp only [Exit.inBlock, Exit.then])
        refine bodyPost_ret (v := .tuple #[.agg #[.slice none 0 0, .slice none 0 0], .int .i64 14]) (by rw [results_cell_tmp rfl]; go_simp) rfl ?_
        rw [HNO.out]
        exact ret0 rfl (below_set2 _ _ _ _ D2.bel (by omega) (Nat.le_refl _))
      · rw [hm, Nm.cut_yes hm] at cM
        have cA := Nm.add64 (r * B) D hm hid wr
        cases ha : Nm.inr (r * B + D)
        · rw [ha] at cA
          have HNO : Hid (fbR BS DS n2 = none) := by
            refine fbR_none (k := k + 1) ?_ n2 (by omega)
            rw [HS.out, if_neg (by rw [ha]; simp)]
          clear hm ha hid hib hir
          generalize r * B = RB at *
          go_wp2_with (first
            | (go_at_call 107; (with_reducible refine cM.mono ?_); rintro e w5 ⟨rfl, hw⟩; rw [hw]; clear hw w5)
            | (go_at_call 106; (with_reducible refine cA.mono ?_); rintro e w5 ⟨rfl, hw⟩; rw [hw]; clear hw w5))
          (try simp only [Exit.inBlock, Exit.then])
          refine bodyPost_ret (v := .tuple #[.agg #[.slice none 0 0, .slice none 0 0], .int .i64 14]) (by rw [results_cell_tmp rfl]; go_simp) rfl ?_
          rw [HNO.out]
          exact ret0 rfl (below_set2 _ _ _ _ D2.bel (by omega) (Nat.le_refl _))
        · rw [ha, Nm.cut_yes ha] at cA
          have HYES : Hid (fbR BS DS (k + 1) = some (r * B + D)) := by show _ = _; rw [HS.out, if_pos ⟨hm, ha⟩]
          have HIA : Hid (Nm.inr (r * B + D) = true) := ha
          clear hm ha hid hib hir HS
          generalize r * B = RB at *
          generalize RB + D = RD at *
          go_wp2_with (first
            | (go_at_call 107; (with_reducible refine cM.mono ?_); rintro e w5 ⟨rfl, hw⟩; rw [hw]; clear hw w5)
            | (go_at_call 106; (with_reducible refine cA.mono ?_); rintro e w5 ⟨rfl, hw⟩; rw [hw]; clear hw w5))
          go_roundw
          case rel => exact ⟨k + 1, RD, by omega, by go_num, rfl, HYES.out, HIA.out, (by first | trivial | rfl)⟩
          case measure => simp [intOf]; omega
    · obtain rfl : k = n2 := by omega
      have t5 : decide ((k : Int) < (k : Int)) = false := by simp
      have hr := Nm.inr_iff.1 hir
      have cS := scalar_any r wr hr.1 hr.2
      clear hir hr
      go_wp2_with (go_at_call 180; (with_reducible refine cS.mono ?_); rintro e w5 ⟨o5, c5, rfl, f5, b5⟩; have D5 := D2.below b5 s2; obtain ⟨q0, q1, q2, q3⟩ := box2 D5.r)
      (try simp only [Exit.inBlock, Exit.then])
      refine bodyPost_ret (v := .tuple #[.agg #[.slice none 0 0, .slice o5 1 c5], .int .i64 0]) (by rw [results_cell_tmp rfl]; go_simp) rfl ?_
      rw [HF.out]
      exact ⟨none, 0, 0, o5, 1, c5, [], [r], rfl, Ft.nil _ _ _, (ft_setZ f5 (by omega) _ _).mono (by omega), ⟨rfl, rfl⟩, below_set2 _ _ _ _ D5.bel (by omega) (Nat.le_refl _)⟩

set_option maxHeartbeats 4000000 in
set_option maxRecDepth 20000 in
theorem fromBase_c (so ao uo bo : Option Addr) (sn sc an ac un uc bn bc : Nat) (sx ax sy ay : List Int) (w : World) (hx : Rd w so sn sx) (gx : Rd w ao an ax) (gsx : Sl ao an ac) (hy : Rd w uo un sy) (gy : Rd w bo bn ay) (gsy : Sl bo bn bc) (an4 : an ≤ 4096) (bn4 : bn ≤ 4096) (h11 : sn = 0 → an = 1) (h12 : un = 0 → bn = 1) (n : Nat) (l1 : (takL sx ax bn).length = n) (l2 : (takL sy ay an).length = n) (h1 : 0 < sn) (h2 : 0 < un) (h3 : an = bn) :
    Calls Tryz.prog 147 #[.agg #[.slice so sn sc, .slice ao an ac], .agg #[.slice uo un uc, .slice bo bn bc]] w fun e w' => AnsZ w (fun S A => S = [] ∧ A = fbA (fbR (takL sx ax bn) (takL sy ay an) n)) (fbE (fbR (takL sx ax bn) (takL sy ay an) n)) e w' := by
  have D0 := du_startZ w so sn sc ao an ac uo un uc bo bn bc
  have s0 := D0.sz
  obtain ⟨x0, x1, _, _⟩ := box2 D0.x
  obtain ⟨x2, x3, _, _⟩ := box2 D0.y
  have al : ∀ V, DuZ w V so sn sc ao an ac uo un uc bo bn bc → V.cell? ⟨w.heap.size, 0, none⟩ = some (.slice so sn sc) ∧ V.cell? ⟨w.heap.size, 1, none⟩ = some (.slice ao an ac) ∧ V.cell? ⟨w.heap.size + 1, 0, none⟩ = some (.slice uo un uc) ∧ V.cell? ⟨w.heap.size + 1, 1, none⟩ = some (.slice bo bn bc) := fun V D => ⟨(box2 D.x).1, (box2 D.x).2.1, (box2 D.y).1, (box2 D.y).2.1⟩
  have DD : ∀ V, DuZ w V so sn sc ao an ac uo un uc bo bn bc → DuZ w V.drew so sn sc ao an ac uo un uc bo bn bc := fun V D => D.below (B := V.heap.size) (Below.refl _ _).drew D.sz
  have cTx := fun V (D : DuZ w V so sn sc ao an ac uo un uc bo bn bc) => taken_any so ao sn sc an ac bn sx ax V (hx.below D.bel (Nat.le_refl _)) (gx.below D.bel (Nat.le_refl _)) gsx bn4 h11
  have cTy := fun V (D : DuZ w V so sn sc ao an ac uo un uc bo bn bc) => taken_any uo bo un uc bn bc an sy ay V (hy.below D.bel (Nat.le_refl _)) (gy.below D.bel (Nat.le_refl _)) gsy an4 h12
  clear h11 h12
  have HL1 : Hid ((takL sx ax bn).length = n) := l1
  have HL2 : Hid ((takL sy ay an).length = n) := l2
  clear l1 l2
  generalize takL sx ax bn = BS at *
  generalize takL sy ay an = DS at *
  have t1 : decide (0 < sn) = true := by simpa using h1
  have t1b : (0 : Int) < (sn : Int) := by omega
  have t2 : decide (0 < un) = true := by simpa using h2
  have t2b : (0 : Int) < (un : Int) := by omega
  have t3 : ((an : Int) != (bn : Int)) = false := by simp; omega
  have t3b : (an != bn) = false := by simpa using h3
  clear h3
  go_enter Tryz.func147, Tryz.ntmps147
  go_wp2
  have DB := DD _ D0
  have sB := DB.sz
  go_region_held3 (fun V => V.cell? ⟨w.heap.size, 0, none⟩ = some (.slice so sn sc) ∧ V.cell? ⟨w.heap.size, 1, none⟩ = some (.slice ao an ac) ∧ V.cell? ⟨w.heap.size + 1, 0, none⟩ = some (.slice uo un uc) ∧ V.cell? ⟨w.heap.size + 1, 1, none⟩ = some (.slice bo bn bc)) (first | exact al _ DB | exact al _ D1 | exact al _ D2)
    (first
      | (go_at_call 195; (with_reducible refine (cTx _ DB).mono ?_); rintro e w1 ⟨o1, n1, c1, rfl, r1, l1, k1⟩; have D1 := DB.below k1 sB; have s1 := D1.sz)
      | (go_at_call 195; (with_reducible refine (cTy _ D1).mono ?_); rintro e w2 ⟨o2, n2, c2, rfl, r2, l2, k2⟩; have D2 := D1.below k2 s1; have s2 := D2.sz))
  have b1 := r1.below k2 (Nat.le_refl _)
  obtain rfl : n1 = n := by rw [← b1.len]; exact HL1.out
  obtain rfl : n2 = n1 := by rw [← r2.len]; exact HL2.out
  have n4 : n2 * 8 ≤ 140737488351232 := b1.room
  clear cTx cTy al DD DB D1 r1 k1 k2 x0 x1 x2 x3 D0 s0 sB s1 HL1 HL2
  have HN1 : Hid (_) := b1.num
  have HN2 : Hid (_) := r2.num
  obtain ⟨q0, q1, q2, q3⟩ := box2 D2.r
  go_wp2
  go_loopw [8, 45] (fun s i V => ∃ (k : Nat) (r : Int), k ≤ n2 ∧ i = .int .i64 (k : Nat) ∧ s = .int .i64 r ∧ fbR BS DS k = some r ∧ Nm.inr r = true ∧ V = w2) (fun _ i _ => n2 - (intOf i).toNat)
  case atStart => exact ⟨0, 0, Nat.zero_le _, rfl, rfl, rfl, rfl, rfl⟩
  case round =>
    obtain ⟨k, r, hk, rfl, rfl, hfr, hir, rfl⟩ := hrel
    have HF : Hid (fbR BS DS k = some r) := hfr
    clear hfr
    by_cases hlt : k < n2
    · have t5 : decide ((k : Int) < (n2 : Int)) = true := by simp; omega
      have bk : (k : Int) < (n2 : Int) := by omega
      obtain ⟨b, off, rfl, hb, hc⟩ := b1.cells (by omega)
      obtain ⟨b', off', rfl, hb', hc'⟩ := r2.cells (by omega)
      have c1 := hc k hlt
      have c2 := hc' k hlt
      have hib : Nm.inr (nth BS k) = true := Nm.inr_iff.2 (HN1.out k hlt)
      have hid : Nm.inr (nth DS k) = true := Nm.inr_iff.2 (HN2.out k hlt)
      have HS : Hid (_) := fbR_succ HF.out
      clear hc hc'
      generalize nth BS k = B at *
      generalize nth DS k = D at *
      have cM := Nm.mul64 r B hir hib wr
      cases hm : Nm.inr (r * B)
      · rw [hm] at cM
        have HNO : Hid (fbR BS DS n2 = none) := by
          refine fbR_none (k := k + 1) ?_ n2 (by omega)
          rw [HS.out, if_neg (by rw [hm]; simp)]
        clear hm hid hib hir
        go_wp2_with (go_at_call 107; (with_reducible refine cM.mono ?_); rintro e w5 ⟨rfl, hw⟩; rw [hw]; clear hw w5)
        (try simp only [Exit.inBlock, Exit.then])
        refine bodyPost_ret (v := .tuple #[.agg #[.slice none 0 0, .slice none 0 0], .int .i64 14]) (by rw [results_cell_tmp rfl]; go_simp) rfl ?_
        rw [HNO.out]
        exact ret0 rfl (below_set2 _ _ _ _ D2.bel (by omega) (Nat.le_refl _))
      · rw [hm, Nm.cut_yes hm] at cM
        have cA := Nm.add64 (r * B) D hm hid wr
        cases ha : Nm.inr (r * B + D)
        · rw [ha] at cA
          have HNO : Hid (fbR BS DS n2 = none) := by
            refine fbR_none (k := k + 1) ?_ n2 (by omega)
            rw [HS.out, if_neg (by rw [ha]; simp)]
          clear hm ha hid hib hir
          generalize r * B = RB at *
          go_wp2_with (first
            | (go_at_call 107; (with_reducible refine cM.mono ?_); rintro e w5 ⟨rfl, hw⟩; rw [hw]; clear hw w5)
            | (go_at_call 106; (with_reducible refine cA.mono ?_); rintro e w5 ⟨rfl, hw⟩; rw [hw]; clear hw w5))
          (try simp only [Exit.inBlock, Exit.then])
          refine bodyPost_ret (v := .tuple #[.agg #[.slice none 0 0, .slice none 0 0], .int .i64 14]) (by rw [results_cell_tmp rfl]; go_simp) rfl ?_
          rw [HNO.out]
          exact ret0 rfl (below_set2 _ _ _ _ D2.bel (by omega) (Nat.le_refl _))
        · rw [ha, Nm.cut_yes ha] at cA
          have HYES : Hid (fbR BS DS (k + 1) = some (r * B + D)) := by show _ = _; rw [HS.out, if_pos ⟨hm, ha⟩]
          have HIA : Hid (Nm.inr (r * B + D) = true) := ha
          clear hm ha hid hib hir HS
          generalize r * B = RB at *
          generalize RB + D = RD at *
          go_wp2_with (first
            | (go_at_call 107; (with_reducible refine cM.mono ?_); rintro e w5 ⟨rfl, hw⟩; rw [hw]; clear hw w5)
            | (go_at_call 106; (with_reducible refine cA.mono ?_); rintro e w5 ⟨rfl, hw⟩; rw [hw]; clear hw w5))
          go_roundw
          case rel => exact ⟨k + 1, RD, by omega, by go_num, rfl, HYES.out, HIA.out, (by first | trivial | rfl)⟩
          case measure => simp [intOf]; omega
    · obtain rfl : k = n2 := by omega
      have t5 : decide ((k : Int) < (k : Int)) = false := by simp
      have hr := Nm.inr_iff.1 hir
      have cS := scalar_any r wr hr.1 hr.2
      clear hir hr
      go_wp2_with (go_at_call 180; (with_reducible refine cS.mono ?_); rintro e w5 ⟨o5, c5, rfl, f5, b5⟩; have D5 := D2.below b5 s2; obtain ⟨q0, q1, q2, q3⟩ := box2 D5.r)
      (try simp only [Exit.inBlock, Exit.then])
      refine bodyPost_ret (v := .tuple #[.agg #[.slice none 0 0, .slice o5 1 c5], .int .i64 0]) (by rw [results_cell_tmp rfl]; go_simp) rfl ?_
      rw [HF.out]
      exact ⟨none, 0, 0, o5, 1, c5, [], [r], rfl, Ft.nil _ _ _, (ft_setZ f5 (by omega) _ _).mono (by omega), ⟨rfl, rfl⟩, below_set2 _ _ _ _ D5.bel (by omega) (Nat.le_refl _)⟩

/-- How many digits are taken. -/
def fbN (sx sy ax ay : List Int) : Nat := (takL sx ax ay.length).length
theorem fbN_eq {sx ax sy ay : List Int} (mx : mayA sx ax = 0) (my : mayA sy ay = 0) (hl : sx.length = 0 ∨ sy.length = 0 ∨ ax.length = ay.length) : (takL sy ay ax.length).length = fbN sx sy ax ay := by
  unfold fbN
  rw [takL_len, takL_len]
  by_cases a : sx.length = 0
  · have := one_len mx a
    rw [if_pos a, this]
    by_cases b : sy.length = 0
    · rw [if_pos b]; omega
    · rw [if_neg b]; omega
  · rw [if_neg a]
    by_cases b : sy.length = 0
    · have := one_len my b
      rw [if_pos b, this]; omega
    · rw [if_neg b]; rcases hl with h | h | h <;> omega
theorem fromBase_any (so ao uo bo : Option Addr) (sn sc an ac un uc bn bc : Nat) (sx ax sy ay : List Int) (w : World) (hx : Rd w so sn sx) (gx : Rd w ao an ax) (gsx : Sl ao an ac) (hy : Rd w uo un sy) (gy : Rd w bo bn ay) (gsy : Sl bo bn bc) (mx : mayA sx ax = 0) (my : mayA sy ay = 0) (hl : sx.length = 0 ∨ sy.length = 0 ∨ ax.length = ay.length) :
    Calls Tryz.prog 147 #[.agg #[.slice so sn sc, .slice ao an ac], .agg #[.slice uo un uc, .slice bo bn bc]] w fun e w' => AnsZ w (fun S A => S = [] ∧ A = fbA (fbR (takL sx ax ay.length) (takL sy ay ax.length) (fbN sx sy ax ay))) (fbE (fbR (takL sx ax ay.length) (takL sy ay ax.length) (fbN sx sy ax ay))) e w' := by
  have Lx := hx.len
  have Ax := gx.len
  have Ly := hy.len
  have Ay := gy.len
  have x4 := atoms_le mx
  have y4 := atoms_le my
  have o1 : sn = 0 → an = 1 := fun h => by have := one_len mx (by omega); omega
  have o2 : un = 0 → bn = 1 := fun h => by have := one_len my (by omega); omega
  have l2 := fbN_eq mx my hl
  have l1 : (takL sx ax ay.length).length = fbN sx sy ax ay := rfl
  generalize fbN sx sy ax ay = n at *
  rw [Ax] at l2
  rw [Ay] at l1
  rw [Ax, Ay]
  by_cases a : sn = 0
  · exact fromBase_a so ao uo bo sn sc an ac un uc bn bc sx ax sy ay w hx gx gsx hy gy gsy (by omega) (by omega) o1 o2 n l1 l2 a
  · by_cases b : un = 0
    · exact fromBase_b so ao uo bo sn sc an ac un uc bn bc sx ax sy ay w hx gx gsx hy gy gsy (by omega) (by omega) o1 o2 n l1 l2 (by omega) b
    · exact fromBase_c so ao uo bo sn sc an ac un uc bn bc sx ax sy ay w hx gx gsx hy gy gsy (by omega) (by omega) o1 o2 n l1 l2 (by omega) (by omega) (by rcases hl with h | h | h <;> omega)
end Go.Proofs.YtelcagfaflpolaaGreat






namespace Go.Proofs.YtelcagfaflpolaaGreat

open Go.RowKit

set_option linter.unusedVariables false

def zOp (k : Nat) : Int := [34, 43, 22, 39, 40].getD k 0
def zA (k : Nat) : Int := [1, 1, 0, 1, 8].getD k 0
def zM (k : Nat) : Value := [.func (.func 143) #[] #[], .func (.func 144) #[] #[], .nilFunc, .func (.func 146) #[] #[], .func (.func 148) #[] #[]].getD k .nilFunc
def zB (k : Nat) : Int := [0, 0, 8, 1, 0].getD k 0
def zD (k : Nat) : Value := [.nilFunc, .nilFunc, .func (.func 145) #[] #[], .func (.func 147) #[] #[], .func (.func 149) #[] #[]].getD k .nilFunc
def digRow : List Value := [.int .i64 34, .int .i64 1, .func (.func 143) #[] #[], .int .i64 0, .nilFunc, .int .i64 43, .int .i64 1, .func (.func 144) #[] #[], .int .i64 0, .nilFunc, .int .i64 22, .int .i64 0, .nilFunc, .int .i64 8, .func (.func 145) #[] #[], .int .i64 39, .int .i64 1, .func (.func 146) #[] #[], .int .i64 1, .func (.func 147) #[] #[], .int .i64 40, .int .i64 8, .func (.func 148) #[] #[], .int .i64 0, .func (.func 149) #[] #[]]
theorem digRow_at (l : List Value) (hl : l = digRow) : ∀ k : Nat, k < 5 → l[k * 5]? = some (.int .i64 (zOp k)) ∧ l[k * 5 + 1]? = some (.int .i64 (zA k)) ∧ l[k * 5 + 2]? = some (zM k) ∧ l[k * 5 + 3]? = some (.int .i64 (zB k)) ∧ l[k * 5 + 4]? = some (zD k) := by
  subst hl
  intro k hk
  match k, hk with
  | 0, _ => exact ⟨rfl, rfl, rfl, rfl, rfl⟩
  | 1, _ => exact ⟨rfl, rfl, rfl, rfl, rfl⟩
  | 2, _ => exact ⟨rfl, rfl, rfl, rfl, rfl⟩
  | 3, _ => exact ⟨rfl, rfl, rfl, rfl, rfl⟩
  | 4, _ => exact ⟨rfl, rfl, rfl, rfl, rfl⟩

theorem digTab {W : World} {g : Nat} (h : W.heap[g]? = some (.cells digRow.toArray 137 (0, 0))) : ∀ k : Nat, k < 5 → W.cell? ⟨g, k * 5, none⟩ = some (.int .i64 (zOp k)) ∧ W.cell? ⟨g, k * 5 + 1, none⟩ = some (.int .i64 (zA k)) ∧ W.cell? ⟨g, k * 5 + 2, none⟩ = some (zM k) ∧ W.cell? ⟨g, k * 5 + 3, none⟩ = some (.int .i64 (zB k)) ∧ W.cell? ⟨g, k * 5 + 4, none⟩ = some (zD k) := fun k hk =>
  have tab := digRow_at _ rfl
  ⟨(cell_of_row W g _ _ _ (0, 0) h).trans (by simpa using (tab k hk).1), (cell_of_row W g _ _ _ (0, 0) h).trans (by simpa using (tab k hk).2.1), (cell_of_row W g _ _ _ (0, 0) h).trans (by simpa using (tab k hk).2.2.1), (cell_of_row W g _ _ _ (0, 0) h).trans (by simpa using (tab k hk).2.2.2.1), (cell_of_row W g _ _ _ (0, 0) h).trans (by simpa using (tab k hk).2.2.2.2)⟩
set_option maxRecDepth 20000 in
theorem rowsZ_any (w : World) : Calls Tryz.prog 98 #[] w fun e w' => e = .returned (.slice (some ⟨w.heap.size, 0, none⟩) 5 5) ∧ w' = w.alloc (.cells digRow.toArray 137) := by
  go_enter Tryz.func98, Tryz.ntmps98
  go_wp2
  go_ret
  exact ⟨rfl, rfl⟩
theorem bx5 {W : World} {g : Nat} {a b c d e : Value} {t : TypeId} (h : W.heap[g]? = some (.cells #[a, b, c, d, e] t (0, 0))) :
    W.cell? ⟨g, 0, none⟩ = some a ∧ W.cell? ⟨g, 1, none⟩ = some b ∧ W.cell? ⟨g, 2, none⟩ = some c ∧ W.cell? ⟨g, 3, none⟩ = some d ∧ W.cell? ⟨g, 4, none⟩ = some e ∧ W.frozen? ⟨g, 0, none⟩ = false ∧ W.frozen? ⟨g, 1, none⟩ = false ∧ W.frozen? ⟨g, 2, none⟩ = false ∧ W.frozen? ⟨g, 3, none⟩ = false ∧ W.frozen? ⟨g, 4, none⟩ = false :=
  ⟨(cell_of_row W g 0 _ t (0, 0) h).trans rfl, (cell_of_row W g 1 _ t (0, 0) h).trans rfl, (cell_of_row W g 2 _ t (0, 0) h).trans rfl, (cell_of_row W g 3 _ t (0, 0) h).trans rfl, (cell_of_row W g 4 _ t (0, 0) h).trans rfl, frozen_of_row W g 0 _ t h, frozen_of_row W g 1 _ t h, frozen_of_row W g 2 _ t h, frozen_of_row W g 3 _ t h, frozen_of_row W g 4 _ t h⟩
theorem below_set5 {a W : World} {B b : Nat} (o1 o2 o3 o4 o5 : Nat) (v1 v2 v3 v4 v5 : Value) (h : Below B a W) (hb : B ≤ b) : Below B a (((((W.setCell ⟨b, o1, none⟩ v1).setCell ⟨b, o2, none⟩ v2).setCell ⟨b, o3, none⟩ v3).setCell ⟨b, o4, none⟩ v4).setCell ⟨b, o5, none⟩ v5) :=
  ((((h.setCell (p := ⟨b, o1, none⟩) hb v1).setCell (p := ⟨b, o2, none⟩) hb v2).setCell (p := ⟨b, o3, none⟩) hb v3).setCell (p := ⟨b, o4, none⟩) hb v4).setCell (p := ⟨b, o5, none⟩) hb v5
theorem zRow_kinds (k : Nat) (hk : k < 5) : (zM k = .nilFunc ∧ ∃ G, zD k = .func (.func G) #[] #[]) ∨ (zD k = .nilFunc ∧ ∃ F, zM k = .func (.func F) #[] #[]) ∨ ∃ F G, zM k = .func (.func F) #[] #[] ∧ zD k = .func (.func G) #[] #[] := by
  match k, hk with
  | 0, _ => exact .inr (.inl ⟨rfl, _, rfl⟩)
  | 1, _ => exact .inr (.inl ⟨rfl, _, rfl⟩)
  | 2, _ => exact .inl ⟨rfl, _, rfl⟩
  | 3, _ => exact .inr (.inr ⟨_, _, rfl, rfl⟩)
  | 4, _ => exact .inr (.inr ⟨_, _, rfl, rfl⟩)

set_option maxHeartbeats 2000000 in
theorem rowOfZ_34 (w : World) :
    Calls Tryz.prog 87 #[.int .i64 34] w fun e w' => e = .returned (.tuple #[.agg #[.int .i64 34, .int .i64 1, .func (.func 143) #[] #[], .int .i64 0, .nilFunc], .bool true]) ∧ Below w.heap.size w w' := by
  have hd := rowsZ_any (w.alloc (.cells #[.int .i64 0, .int .i64 0, .nilFunc, .int .i64 0, .nilFunc] 137))
  have T := digTab (allocNew (w.alloc (.cells #[.int .i64 0, .int .i64 0, .nilFunc, .int .i64 0, .nilFunc] 137)) (.cells digRow.toArray 137))
  have R := ((box_below (w.alloc (.cells #[.int .i64 0, .int .i64 0, .nilFunc, .int .i64 0, .nilFunc] 137)) (.cells digRow.toArray 137)).block w.heap.size (by simp)).trans (allocNew w (.cells #[.int .i64 0, .int .i64 0, .nilFunc, .int .i64 0, .nilFunc] 137))
  have B0 : Below w.heap.size w ((w.alloc (.cells #[.int .i64 0, .int .i64 0, .nilFunc, .int .i64 0, .nilFunc] 137)).alloc (.cells digRow.toArray 137)) := (box_below w _).trans ((box_below _ _).mono (by simp))
  simp only [World.size_alloc] at T hd
  generalize hW2 : (w.alloc (.cells #[.int .i64 0, .int .i64 0, .nilFunc, .int .i64 0, .nilFunc] 137)).alloc (.cells digRow.toArray 137) = W2 at *
  have hs2 : W2.heap.size = w.heap.size + 2 := by rw [← hW2]; simp
  clear hW2
  go_enter Tryz.func87, Tryz.ntmps87
  go_wp2_with (go_at_call 98; (with_reducible refine hd.mono ?_); rintro e w' ⟨rfl, hw⟩; rw [hw]; clear hw w' hd)
  go_loopw [8] (fun i V => ∃ j : Nat, j ≤ 0 ∧ i = .int .i64 (j : Nat) ∧ Below W2.heap.size W2 V) (fun i _ => 5 - (intOf i).toNat)
  case atStart => exact ⟨0, Nat.zero_le _, rfl, Below.refl _ _⟩
  case round =>
    obtain ⟨j, hj, rfl, BV⟩ := hrel
    obtain ⟨r0, r1, r2, r3, r4⟩ := T j (by omega)
    have lt := World.block_lt_of_cell? W2 _ r0
    have y0 := (BV.cell (p := ⟨w.heap.size + 1, j * 5, none⟩) lt).trans r0; have y1 := (BV.cell (p := ⟨w.heap.size + 1, j * 5 + 1, none⟩) lt).trans r1; have y2 := (BV.cell (p := ⟨w.heap.size + 1, j * 5 + 2, none⟩) lt).trans r2; have y3 := (BV.cell (p := ⟨w.heap.size + 1, j * 5 + 3, none⟩) lt).trans r3; have y4 := (BV.cell (p := ⟨w.heap.size + 1, j * 5 + 4, none⟩) lt).trans r4
    clear r0 r1 r2 r3 r4
    have bj : (j : Int) < 5 := by omega
    have tj : decide ((j : Int) < 5) = true := by simp; omega
    by_cases hlt : j < 0
    · exact absurd hlt (Nat.not_lt_zero _)
    · obtain rfl : j = 0 := by omega
      rw [show zOp 0 = 34 from rfl] at y0
      rw [show zA 0 = 1 from rfl] at y1
      rw [show zM 0 = .func (.func 143) #[] #[] from rfl] at y2
      rw [show zB 0 = 0 from rfl] at y3
      rw [show zD 0 = .nilFunc from rfl] at y4
      have BV2 := BV.trans ((box_below wr (.cells #[.int .i64 34, .int .i64 1, .func (.func 143) #[] #[], .int .i64 0, .nilFunc] 137)).mono BV.size)
      have RV := (BV2.block w.heap.size (by omega)).trans R
      obtain ⟨q0, q1, q2, q3, q4, z0, z1, z2, z3, z4⟩ := bx5 RV
      have BB := B0.trans (BV2.mono (by omega))
      clear T R
      go_wp2
      (try simp only [Exit.inBlock, Exit.then])
      refine bodyPost_ret (v := .tuple #[.agg #[.int .i64 34, .int .i64 1, .func (.func 143) #[] #[], .int .i64 0, .nilFunc], .bool true]) (by rw [results_cell_tmp rfl]; go_simp) rfl ?_
      exact ⟨rfl, below_set5 _ _ _ _ _ _ _ _ _ _ BB (Nat.le_refl _)⟩

set_option maxHeartbeats 2000000 in
theorem rowOf_43 (w : World) :
    Calls Tryz.prog 87 #[.int .i64 43] w fun e w' => e = .returned (.tuple #[.agg #[.int .i64 43, .int .i64 1, .func (.func 144) #[] #[], .int .i64 0, .nilFunc], .bool true]) ∧ Below w.heap.size w w' := by
  have hd := rowsZ_any (w.alloc (.cells #[.int .i64 0, .int .i64 0, .nilFunc, .int .i64 0, .nilFunc] 137))
  have T := digTab (allocNew (w.alloc (.cells #[.int .i64 0, .int .i64 0, .nilFunc, .int .i64 0, .nilFunc] 137)) (.cells digRow.toArray 137))
  have R := ((box_below (w.alloc (.cells #[.int .i64 0, .int .i64 0, .nilFunc, .int .i64 0, .nilFunc] 137)) (.cells digRow.toArray 137)).block w.heap.size (by simp)).trans (allocNew w (.cells #[.int .i64 0, .int .i64 0, .nilFunc, .int .i64 0, .nilFunc] 137))
  have B0 : Below w.heap.size w ((w.alloc (.cells #[.int .i64 0, .int .i64 0, .nilFunc, .int .i64 0, .nilFunc] 137)).alloc (.cells digRow.toArray 137)) := (box_below w _).trans ((box_below _ _).mono (by simp))
  simp only [World.size_alloc] at T hd
  generalize hW2 : (w.alloc (.cells #[.int .i64 0, .int .i64 0, .nilFunc, .int .i64 0, .nilFunc] 137)).alloc (.cells digRow.toArray 137) = W2 at *
  have hs2 : W2.heap.size = w.heap.size + 2 := by rw [← hW2]; simp
  clear hW2
  go_enter Tryz.func87, Tryz.ntmps87
  go_wp2_with (go_at_call 98; (with_reducible refine hd.mono ?_); rintro e w' ⟨rfl, hw⟩; rw [hw]; clear hw w' hd)
  go_loopw [8] (fun i V => ∃ j : Nat, j ≤ 1 ∧ i = .int .i64 (j : Nat) ∧ Below W2.heap.size W2 V) (fun i _ => 5 - (intOf i).toNat)
  case atStart => exact ⟨0, Nat.zero_le _, rfl, Below.refl _ _⟩
  case round =>
    obtain ⟨j, hj, rfl, BV⟩ := hrel
    obtain ⟨r0, r1, r2, r3, r4⟩ := T j (by omega)
    have lt := World.block_lt_of_cell? W2 _ r0
    have y0 := (BV.cell (p := ⟨w.heap.size + 1, j * 5, none⟩) lt).trans r0; have y1 := (BV.cell (p := ⟨w.heap.size + 1, j * 5 + 1, none⟩) lt).trans r1; have y2 := (BV.cell (p := ⟨w.heap.size + 1, j * 5 + 2, none⟩) lt).trans r2; have y3 := (BV.cell (p := ⟨w.heap.size + 1, j * 5 + 3, none⟩) lt).trans r3; have y4 := (BV.cell (p := ⟨w.heap.size + 1, j * 5 + 4, none⟩) lt).trans r4
    clear r0 r1 r2 r3 r4
    have bj : (j : Int) < 5 := by omega
    have tj : decide ((j : Int) < 5) = true := by simp; omega
    by_cases hlt : j < 1
    · have hne : (zOp j == 43) = false := by
        match j, hlt with
        | 0, _ => rfl
      generalize zOp j = OJ at *
      generalize zA j = AJ at *
      generalize zB j = BJ at *
      rcases zRow_kinds j (by omega) with ⟨e1, G, e2⟩ | ⟨e2, F, e1⟩ | ⟨F, G, e1, e2⟩
      all_goals
        rw [e1] at y2
        rw [e2] at y4
        clear e1 e2
        go_wp2
        go_roundw
        case rel => exact ⟨j + 1, by omega, by go_num, BV.trans ((box_below wr _).mono BV.size)⟩
        case measure => simp [intOf]; omega
    · obtain rfl : j = 1 := by omega
      rw [show zOp 1 = 43 from rfl] at y0
      rw [show zA 1 = 1 from rfl] at y1
      rw [show zM 1 = .func (.func 144) #[] #[] from rfl] at y2
      rw [show zB 1 = 0 from rfl] at y3
      rw [show zD 1 = .nilFunc from rfl] at y4
      have BV2 := BV.trans ((box_below wr (.cells #[.int .i64 43, .int .i64 1, .func (.func 144) #[] #[], .int .i64 0, .nilFunc] 137)).mono BV.size)
      have RV := (BV2.block w.heap.size (by omega)).trans R
      obtain ⟨q0, q1, q2, q3, q4, z0, z1, z2, z3, z4⟩ := bx5 RV
      have BB := B0.trans (BV2.mono (by omega))
      clear T R
      go_wp2
      (try simp only [Exit.inBlock, Exit.then])
      refine bodyPost_ret (v := .tuple #[.agg #[.int .i64 43, .int .i64 1, .func (.func 144) #[] #[], .int .i64 0, .nilFunc], .bool true]) (by rw [results_cell_tmp rfl]; go_simp) rfl ?_
      exact ⟨rfl, below_set5 _ _ _ _ _ _ _ _ _ _ BB (Nat.le_refl _)⟩

set_option maxHeartbeats 2000000 in
theorem rowOf_39 (w : World) :
    Calls Tryz.prog 87 #[.int .i64 39] w fun e w' => e = .returned (.tuple #[.agg #[.int .i64 39, .int .i64 1, .func (.func 146) #[] #[], .int .i64 1, .func (.func 147) #[] #[]], .bool true]) ∧ Below w.heap.size w w' := by
  have hd := rowsZ_any (w.alloc (.cells #[.int .i64 0, .int .i64 0, .nilFunc, .int .i64 0, .nilFunc] 137))
  have T := digTab (allocNew (w.alloc (.cells #[.int .i64 0, .int .i64 0, .nilFunc, .int .i64 0, .nilFunc] 137)) (.cells digRow.toArray 137))
  have R := ((box_below (w.alloc (.cells #[.int .i64 0, .int .i64 0, .nilFunc, .int .i64 0, .nilFunc] 137)) (.cells digRow.toArray 137)).block w.heap.size (by simp)).trans (allocNew w (.cells #[.int .i64 0, .int .i64 0, .nilFunc, .int .i64 0, .nilFunc] 137))
  have B0 : Below w.heap.size w ((w.alloc (.cells #[.int .i64 0, .int .i64 0, .nilFunc, .int .i64 0, .nilFunc] 137)).alloc (.cells digRow.toArray 137)) := (box_below w _).trans ((box_below _ _).mono (by simp))
  simp only [World.size_alloc] at T hd
  generalize hW2 : (w.alloc (.cells #[.int .i64 0, .int .i64 0, .nilFunc, .int .i64 0, .nilFunc] 137)).alloc (.cells digRow.toArray 137) = W2 at *
  have hs2 : W2.heap.size = w.heap.size + 2 := by rw [← hW2]; simp
  clear hW2
  go_enter Tryz.func87, Tryz.ntmps87
  go_wp2_with (go_at_call 98; (with_reducible refine hd.mono ?_); rintro e w' ⟨rfl, hw⟩; rw [hw]; clear hw w' hd)
  go_loopw [8] (fun i V => ∃ j : Nat, j ≤ 3 ∧ i = .int .i64 (j : Nat) ∧ Below W2.heap.size W2 V) (fun i _ => 5 - (intOf i).toNat)
  case atStart => exact ⟨0, Nat.zero_le _, rfl, Below.refl _ _⟩
  case round =>
    obtain ⟨j, hj, rfl, BV⟩ := hrel
    obtain ⟨r0, r1, r2, r3, r4⟩ := T j (by omega)
    have lt := World.block_lt_of_cell? W2 _ r0
    have y0 := (BV.cell (p := ⟨w.heap.size + 1, j * 5, none⟩) lt).trans r0; have y1 := (BV.cell (p := ⟨w.heap.size + 1, j * 5 + 1, none⟩) lt).trans r1; have y2 := (BV.cell (p := ⟨w.heap.size + 1, j * 5 + 2, none⟩) lt).trans r2; have y3 := (BV.cell (p := ⟨w.heap.size + 1, j * 5 + 3, none⟩) lt).trans r3; have y4 := (BV.cell (p := ⟨w.heap.size + 1, j * 5 + 4, none⟩) lt).trans r4
    clear r0 r1 r2 r3 r4
    have bj : (j : Int) < 5 := by omega
    have tj : decide ((j : Int) < 5) = true := by simp; omega
    by_cases hlt : j < 3
    · have hne : (zOp j == 39) = false := by
        match j, hlt with
        | 0, _ => rfl
        | 1, _ => rfl
        | 2, _ => rfl
      generalize zOp j = OJ at *
      generalize zA j = AJ at *
      generalize zB j = BJ at *
      rcases zRow_kinds j (by omega) with ⟨e1, G, e2⟩ | ⟨e2, F, e1⟩ | ⟨F, G, e1, e2⟩
      all_goals
        rw [e1] at y2
        rw [e2] at y4
        clear e1 e2
        go_wp2
        go_roundw
        case rel => exact ⟨j + 1, by omega, by go_num, BV.trans ((box_below wr _).mono BV.size)⟩
        case measure => simp [intOf]; omega
    · obtain rfl : j = 3 := by omega
      rw [show zOp 3 = 39 from rfl] at y0
      rw [show zA 3 = 1 from rfl] at y1
      rw [show zM 3 = .func (.func 146) #[] #[] from rfl] at y2
      rw [show zB 3 = 1 from rfl] at y3
      rw [show zD 3 = .func (.func 147) #[] #[] from rfl] at y4
      have BV2 := BV.trans ((box_below wr (.cells #[.int .i64 39, .int .i64 1, .func (.func 146) #[] #[], .int .i64 1, .func (.func 147) #[] #[]] 137)).mono BV.size)
      have RV := (BV2.block w.heap.size (by omega)).trans R
      obtain ⟨q0, q1, q2, q3, q4, z0, z1, z2, z3, z4⟩ := bx5 RV
      have BB := B0.trans (BV2.mono (by omega))
      clear T R
      go_wp2
      (try simp only [Exit.inBlock, Exit.then])
      refine bodyPost_ret (v := .tuple #[.agg #[.int .i64 39, .int .i64 1, .func (.func 146) #[] #[], .int .i64 1, .func (.func 147) #[] #[]], .bool true]) (by rw [results_cell_tmp rfl]; go_simp) rfl ?_
      exact ⟨rfl, below_set5 _ _ _ _ _ _ _ _ _ _ BB (Nat.le_refl _)⟩

end Go.Proofs.YtelcagfaflpolaaGreat


namespace Go.Proofs.YtelcagfaflpolaaGreat

open Go.RowKit

set_option linter.unusedVariables false

theorem nMz_eqF (w : World) (f : Fn) (a c : Array Value) : (binOp .eql 81 (.func f a c) .nilFunc).run Tryz.prog w = .ok (.bool false) w := by
  have hu : Tryz.prog.underlying 81 = some (.func #[36] #[36, 28] false) := by kernel_rfl
  have h : (Op.equal 81 (.func f a c) .nilFunc).run Tryz.prog w = .ok false w := by
    show (Op.equalIn (9999 + 1) 81 (.func f a c) .nilFunc).run Tryz.prog w = .ok false w
    rw [Op.equalIn]
    simp [Sem.run_bind, run_underlying hu, Result.andThen]
  simp [binOp, h]
set_option maxHeartbeats 2000000 in
theorem monadZ_34 (so ao : Option Addr) (sn sc an ac : Nat) (sy ay : List Int) (Φ : List Int → List Int → Prop) (E : Int) (w : World) (hsy : Rd w so sn sy) (hay : Rd w ao an ay) (my : mayA sy ay = 0) (ry : sn ≤ 1)
    (hc : ∀ V, Below w.heap.size w V → Calls Tryz.prog 143 #[.agg #[.slice so sn sc, .slice ao an ac]] V fun e w' => AnsZ V Φ E e w') :
    Calls Tryz.prog 73 #[.int .i64 34, .agg #[.slice so sn sc, .slice ao an ac]] w fun e w' => AnsZ w Φ E e w' := by
  have U0 := un_startZ w so sn sc ao an ac
  have s0 := U0.sz
  have cM1 := mayA_any so ao sn sc an ac sy ay _ (hsy.below U0.bel (Nat.le_refl _)) (hay.below U0.bel (Nat.le_refl _))
  rw [my] at cM1
  have cD := fun V => rowOfZ_34 V
  obtain ⟨x0, x1, _, _⟩ := box2 U0.x
  clear my
  have t2 : decide (1 < sn) = false := by simp; omega
  have t2b : ¬ (1 : Int) < (sn : Int) := by omega
  have hnil := fun V => nMz_eqF V (.func 143) #[] #[]
  go_enter Tryz.func73, Tryz.ntmps73
  go_wp2_with (first
    | (go_at_call 13; (with_reducible refine cM1.mono ?_); rintro e w1 ⟨rfl, k1⟩; have U1 := U0.below k1 s0; have s1 := U1.sz)
    | (go_at_call 87; (with_reducible refine (cD w1).mono ?_); rintro e w3 ⟨rfl, k3⟩; have U3 := U1.below k3 s1; have s3 := U3.sz; have U4 := U3.below (box_below w3 (.cells #[.int .i64 34, .int .i64 1, .func (.func 143) #[] #[], .int .i64 0, .nilFunc] 137)) s3; obtain ⟨v0, v1, _, _⟩ := box2 U4.x)
    | (go_at_call 143; (with_reducible refine (hc _ U4.bel).mono ?_); rintro e w5 ⟨o1, n1, c1, o2, n2, c2, S, A, rfl, f1, f2, hΦ, k5⟩; have s4 := U4.sz; have U5 := U4.below k5 s4; obtain ⟨z0, z1, z2, z3⟩ := box2 U5.r))
  (try simp only [Exit.inBlock, Exit.then])
  refine bodyPost_ret (v := .tuple #[.agg #[.slice o1 n1 c1, .slice o2 n2 c2], .int .i64 E]) (by rw [results_cell_tmp rfl]; go_simp) rfl ?_
  exact ⟨o1, n1, c1, o2, n2, c2, S, A, rfl, (ft_setZ f1 (by omega) _ _).mono (by omega), (ft_setZ f2 (by omega) _ _).mono (by omega), hΦ, below_set2 _ _ _ _ U5.bel (by omega) (Nat.le_refl _)⟩

set_option maxHeartbeats 2000000 in
theorem monadZ_43 (so ao : Option Addr) (sn sc an ac : Nat) (sy ay : List Int) (Φ : List Int → List Int → Prop) (E : Int) (w : World) (hsy : Rd w so sn sy) (hay : Rd w ao an ay) (my : mayA sy ay = 0) (ry : sn ≤ 1)
    (hc : ∀ V, Below w.heap.size w V → Calls Tryz.prog 144 #[.agg #[.slice so sn sc, .slice ao an ac]] V fun e w' => AnsZ V Φ E e w') :
    Calls Tryz.prog 73 #[.int .i64 43, .agg #[.slice so sn sc, .slice ao an ac]] w fun e w' => AnsZ w Φ E e w' := by
  have U0 := un_startZ w so sn sc ao an ac
  have s0 := U0.sz
  have cM1 := mayA_any so ao sn sc an ac sy ay _ (hsy.below U0.bel (Nat.le_refl _)) (hay.below U0.bel (Nat.le_refl _))
  rw [my] at cM1
  have cD := fun V => rowOf_43 V
  obtain ⟨x0, x1, _, _⟩ := box2 U0.x
  clear my
  have t2 : decide (1 < sn) = false := by simp; omega
  have t2b : ¬ (1 : Int) < (sn : Int) := by omega
  have hnil := fun V => nMz_eqF V (.func 144) #[] #[]
  go_enter Tryz.func73, Tryz.ntmps73
  go_wp2_with (first
    | (go_at_call 13; (with_reducible refine cM1.mono ?_); rintro e w1 ⟨rfl, k1⟩; have U1 := U0.below k1 s0; have s1 := U1.sz)
    | (go_at_call 87; (with_reducible refine (cD w1).mono ?_); rintro e w3 ⟨rfl, k3⟩; have U3 := U1.below k3 s1; have s3 := U3.sz; have U4 := U3.below (box_below w3 (.cells #[.int .i64 43, .int .i64 1, .func (.func 144) #[] #[], .int .i64 0, .nilFunc] 137)) s3; obtain ⟨v0, v1, _, _⟩ := box2 U4.x)
    | (go_at_call 144; (with_reducible refine (hc _ U4.bel).mono ?_); rintro e w5 ⟨o1, n1, c1, o2, n2, c2, S, A, rfl, f1, f2, hΦ, k5⟩; have s4 := U4.sz; have U5 := U4.below k5 s4; obtain ⟨z0, z1, z2, z3⟩ := box2 U5.r))
  (try simp only [Exit.inBlock, Exit.then])
  refine bodyPost_ret (v := .tuple #[.agg #[.slice o1 n1 c1, .slice o2 n2 c2], .int .i64 E]) (by rw [results_cell_tmp rfl]; go_simp) rfl ?_
  exact ⟨o1, n1, c1, o2, n2, c2, S, A, rfl, (ft_setZ f1 (by omega) _ _).mono (by omega), (ft_setZ f2 (by omega) _ _).mono (by omega), hΦ, below_set2 _ _ _ _ U5.bel (by omega) (Nat.le_refl _)⟩

set_option maxHeartbeats 2000000 in
theorem monadZ_39 (so ao : Option Addr) (sn sc an ac : Nat) (sy ay : List Int) (Φ : List Int → List Int → Prop) (E : Int) (w : World) (hsy : Rd w so sn sy) (hay : Rd w ao an ay) (my : mayA sy ay = 0) (ry : sn ≤ 1)
    (hc : ∀ V, Below w.heap.size w V → Calls Tryz.prog 146 #[.agg #[.slice so sn sc, .slice ao an ac]] V fun e w' => AnsZ V Φ E e w') :
    Calls Tryz.prog 73 #[.int .i64 39, .agg #[.slice so sn sc, .slice ao an ac]] w fun e w' => AnsZ w Φ E e w' := by
  have U0 := un_startZ w so sn sc ao an ac
  have s0 := U0.sz
  have cM1 := mayA_any so ao sn sc an ac sy ay _ (hsy.below U0.bel (Nat.le_refl _)) (hay.below U0.bel (Nat.le_refl _))
  rw [my] at cM1
  have cD := fun V => rowOf_39 V
  obtain ⟨x0, x1, _, _⟩ := box2 U0.x
  clear my
  have t2 : decide (1 < sn) = false := by simp; omega
  have t2b : ¬ (1 : Int) < (sn : Int) := by omega
  have hnil := fun V => nMz_eqF V (.func 146) #[] #[]
  go_enter Tryz.func73, Tryz.ntmps73
  go_wp2_with (first
    | (go_at_call 13; (with_reducible refine cM1.mono ?_); rintro e w1 ⟨rfl, k1⟩; have U1 := U0.below k1 s0; have s1 := U1.sz)
    | (go_at_call 87; (with_reducible refine (cD w1).mono ?_); rintro e w3 ⟨rfl, k3⟩; have U3 := U1.below k3 s1; have s3 := U3.sz; have U4 := U3.below (box_below w3 (.cells #[.int .i64 39, .int .i64 1, .func (.func 146) #[] #[], .int .i64 1, .func (.func 147) #[] #[]] 137)) s3; obtain ⟨v0, v1, _, _⟩ := box2 U4.x)
    | (go_at_call 146; (with_reducible refine (hc _ U4.bel).mono ?_); rintro e w5 ⟨o1, n1, c1, o2, n2, c2, S, A, rfl, f1, f2, hΦ, k5⟩; have s4 := U4.sz; have U5 := U4.below k5 s4; obtain ⟨z0, z1, z2, z3⟩ := box2 U5.r))
  (try simp only [Exit.inBlock, Exit.then])
  refine bodyPost_ret (v := .tuple #[.agg #[.slice o1 n1 c1, .slice o2 n2 c2], .int .i64 E]) (by rw [results_cell_tmp rfl]; go_simp) rfl ?_
  exact ⟨o1, n1, c1, o2, n2, c2, S, A, rfl, (ft_setZ f1 (by omega) _ _).mono (by omega), (ft_setZ f2 (by omega) _ _).mono (by omega), hΦ, below_set2 _ _ _ _ U5.bel (by omega) (Nat.le_refl _)⟩

set_option maxHeartbeats 1000000 in
/-- Arrays that may not be are refused, whatever the op. -/
theorem monadZ_bad (op : Int) (so ao : Option Addr) (sn sc an ac : Nat) (sy ay : List Int) (w : World) (hsy : Rd w so sn sy) (hay : Rd w ao an ay) (my : mayA sy ay ≠ 0) :
    Calls Tryz.prog 73 #[.int .i64 op, .agg #[.slice so sn sc, .slice ao an ac]] w fun e w' => AnsZ w (fun S A => S = [] ∧ A = []) 1 e w' := by
  have U0 := un_startZ w so sn sc ao an ac
  have s0 := U0.sz
  have cM1 := mayA_any so ao sn sc an ac sy ay _ (hsy.below U0.bel (Nat.le_refl _)) (hay.below U0.bel (Nat.le_refl _))
  obtain ⟨x0, x1, _, _⟩ := box2 U0.x
  generalize mayA sy ay = M at *
  have t1 : (M != 0) = true := by simpa using my
  clear my
  go_enter Tryz.func73, Tryz.ntmps73
  go_wp2_with (first
    | (go_at_call 13; (with_reducible refine cM1.mono ?_); rintro e w1 ⟨rfl, k1⟩; have U1 := U0.below k1 s0; obtain ⟨r0, r1, r2, r3⟩ := box2 U1.r))
  (try simp only [Exit.inBlock, Exit.then])
  refine bodyPost_ret (v := .tuple #[.agg #[.slice none 0 0, .slice none 0 0], .int .i64 1]) (by rw [results_cell_tmp rfl]; go_simp) rfl ?_
  exact ret0 rfl (below_set2 _ _ _ _ U1.bel (by omega) (Nat.le_refl _))
end Go.Proofs.YtelcagfaflpolaaGreat
