
/- Contracts of package seek: a number for each cell. -/

import Derived.Test.YtmepcenbaohcoaaGreatYK

namespace Go.Proofs.YtmepcenbaohcoaaGreat

open Go.RowKit

set_option linter.unusedVariables false

/-- Between two rounds of eachCell: the numbers lie in the row o2, the cells in the row gg, the cell of the round in the box cb. -/
structure Ed (w V : World) (gg N zb : Nat) (xs : Nat → List Int × List Int) (o1 : Option Addr) (n1 c1 : Nat) (sh1 : List Int) (o2 : Option Addr) (c2 : Nat) (zs : List Int) : Prop where
  bel : Below w.heap.size w V
  res : V.heap[w.heap.size + 1 + 1]? = some (.cells #[.slice none 0 0, .slice none 0 0] 30 (0, 0))
  out : V.heap[zb]? = some (.cells #[.slice o1 n1 c1, .slice o2 N c2] 30 (0, 0))
  f1 : Ft 3 V w.heap.size o1 n1 c1 sh1
  f2 : Ft 2 V w.heap.size o2 N c2 zs
  itm : Cq gg N w V xs
theorem Ed.below {w V V' : World} {gg N zb : Nat} {xs : Nat → List Int × List Int} {o1 : Option Addr} {n1 c1 : Nat} {sh1 : List Int} {o2 : Option Addr} {c2 : Nat} {zs : List Int} (h : Ed w V gg N zb xs o1 n1 c1 sh1 o2 c2 zs) (b : Below V.heap.size V V') : Ed w V' gg N zb xs o1 n1 c1 sh1 o2 c2 zs :=
  ⟨h.bel.trans (b.mono h.bel.size), (b.block _ (Array.getElem?_eq_some_iff.1 h.res).1).trans h.res, (b.block _ (Array.getElem?_eq_some_iff.1 h.out).1).trans h.out, h.f1.below b (Nat.le_refl _), h.f2.below b (Nat.le_refl _), h.itm.below b⟩
theorem Ed.set {w V : World} {gg N zb : Nat} {xs : Nat → List Int × List Int} {o1 : Option Addr} {n1 c1 : Nat} {sh1 : List Int} {b2 c2 : Nat} {zs : List Int} (h : Ed w V gg N zb xs o1 n1 c1 sh1 (some ⟨b2, 0, none⟩) c2 zs) {k : Nat} (hk : k < N) (u : Int) (h1 : -9223372036854775808 ≤ u) (h2 : u ≤ 9223372036854775807) :
    Ed w (V.setCell ⟨b2, k, none⟩ (.int .i64 u)) gg N zb xs o1 n1 c1 sh1 (some ⟨b2, 0, none⟩) c2 (zs.set k u) := by
  have kk := set1 V b2 k (.int .i64 u)
  have lt : ∀ {b cs t}, V.heap[b]? = some (.cells cs t (0, 0)) → b < V.heap.size := fun hb => (Array.getElem?_eq_some_iff.1 hb).1
  have ne : ∀ {b cs t}, V.heap[b]? = some (.cells cs t (0, 0)) → 2 ≠ t → some b ≠ some b2 := fun hb ht e => h.f2.nebox hb ht b2 0 rfl e.symm
  have hb2 := (h.f2.at b2 0 rfl).1
  have bV := h.bel.setCell (p := ⟨b2, k, none⟩) hb2 (.int .i64 u)
  obtain ⟨cur, i1, i2, i3⟩ := h.itm.row
  have f1 := h.f1.keep1 kk (fun b off e e2 => by
    injection e2 with e2
    subst e2
    rcases h.f2.own.2 with ⟨e4, h0⟩ | ⟨g', c', cur', e4, hB2, hg2, r⟩
    · cases e4
    · injection e4 with e5; cases e5
      exact h.f1.nebox hg2 ty_ne3 _ _ e rfl)
  exact ⟨bV, (kk.block _ (lt h.res) (ne h.res ty_ne2)).trans h.res, (kk.block _ (lt h.out) (ne h.out ty_ne2)).trans h.out, f1, h.f2.setY k hk u h1 h2, h.itm.keep bV (kk.block gg (lt i1) (ne i1 ty_ne2))⟩
theorem Ed.slot {w V : World} {gg N zb : Nat} {xs : Nat → List Int × List Int} {o1 : Option Addr} {n1 c1 : Nat} {sh1 : List Int} {o2 : Option Addr} {c2 : Nat} {zs : List Int} (h : Ed w V gg N zb xs o1 n1 c1 sh1 o2 c2 zs) {k : Nat} (hk : k < N) : ∃ b2, o2 = some ⟨b2, 0, none⟩ ∧ w.heap.size ≤ b2 ∧ (∃ v, V.cell? ⟨b2, k, none⟩ = some v) ∧ V.frozen? ⟨b2, k, none⟩ = false := by
  rcases h.f2.own.2 with ⟨e1, h0⟩ | ⟨g', c', cur, e1, hB2, hg, r⟩
  · omega
  · injection e1 with e2
    obtain ⟨b, off, e, hb, hc⟩ := h.f2.rd.cells (by omega)
    rw [e2] at e
    cases e
    have c := hc k hk
    rw [Nat.zero_add] at c
    exact ⟨g', e2, hB2, ⟨_, c⟩, frozen_of_row V g' k _ _ hg⟩

/-- The place, or whether it is there. -/
def tP (xs : Nat → List Int × List Int) (n : Nat) (t : List Int × List Int) : Int := (fsq xs n t : Nat)
def tI (xs : Nat → List Int × List Int) (n : Nat) (t : List Int × List Int) : Int := if fsq xs n t < n then 1 else 0

set_option maxHeartbeats 1000000 in
theorem place1_any (io : Option Addr) (n ic : Nat) (po : Option Addr) (pc : Nat) (xs : Nat → List Int × List Int) (so ao : Option Addr) (sn sc an ac : Nat) (s a : List Int) (fb : Nat) (w : World) (hf : w.heap[fb]? = some (.cells #[.slice io n ic, .slice po n pc] 78 (0, 0))) (h : Fnd w io n ic po pc xs) (hs : Rd w so sn s) (ha : Rd w ao an a) :
    Calls Tryz.prog 60 #[.agg #[.slice so sn sc, .slice ao an ac], .pointer (some ⟨fb, 0, none⟩)] w fun e w' => e = .returned (.int .i64 (tP xs n (s, a))) ∧ Below w.heap.size w w' := by
  have k1 := box_below w (.cells #[.slice so sn sc, .slice ao an ac] 30)
  obtain ⟨q0, q1, _, _⟩ := box2 ((k1.block fb (Array.getElem?_eq_some_iff.1 hf).1).trans hf)
  have hc := first_any io n ic po pc xs so ao sn sc an ac s a _ (h.below k1 (Nat.le_refl _)) (hs.below k1 (Nat.le_refl _)) (ha.below k1 (Nat.le_refl _))
  unfold tP
  generalize fsq xs n (s, a) = r at *
  go_enter Tryz.func60, Tryz.ntmps60
  go_wp2_with (first | (go_at_call 61; (with_reducible refine hc.mono ?_); rintro e w2 ⟨rfl, b2⟩))
  go_ret
  exact ⟨rfl, k1.trans (b2.mono k1.size)⟩

set_option maxHeartbeats 1000000 in
theorem isIn1_any (io : Option Addr) (n ic : Nat) (po : Option Addr) (pc : Nat) (xs : Nat → List Int × List Int) (so ao : Option Addr) (sn sc an ac : Nat) (s a : List Int) (fb : Nat) (w : World) (hf : w.heap[fb]? = some (.cells #[.slice io n ic, .slice po n pc] 78 (0, 0))) (h : Fnd w io n ic po pc xs) (hs : Rd w so sn s) (ha : Rd w ao an a) :
    Calls Tryz.prog 62 #[.agg #[.slice so sn sc, .slice ao an ac], .pointer (some ⟨fb, 0, none⟩)] w fun e w' => e = .returned (.int .i64 (tI xs n (s, a))) ∧ Below w.heap.size w w' := by
  have k1 := box_below w (.cells #[.slice so sn sc, .slice ao an ac] 30)
  obtain ⟨q0, q1, _, _⟩ := box2 ((k1.block fb (Array.getElem?_eq_some_iff.1 hf).1).trans hf)
  have hc := has_any io n ic po pc xs so ao sn sc an ac s a _ (h.below k1 (Nat.le_refl _)) (hs.below k1 (Nat.le_refl _)) (ha.below k1 (Nat.le_refl _))
  have ht := fun V => truth_any (decide (fsq xs n (s, a) < n)) V
  have e : (if (decide (fsq xs n (s, a) < n)) = true then (1 : Int) else 0) = tI xs n (s, a) := by unfold tI; simp
  rw [e] at ht
  generalize tI xs n (s, a) = r at *
  generalize decide (fsq xs n (s, a) < n) = d at *
  clear e
  go_enter Tryz.func62, Tryz.ntmps62
  go_wp2_with (first
    | (go_at_call 64; (with_reducible refine hc.mono ?_); rintro e w2 ⟨rfl, b2⟩)
    | (go_at_call 63; (with_reducible refine (ht _).mono ?_); rintro e w3 ⟨rfl, hw3⟩; rw [hw3]; clear hw3 w3))
  go_ret
  exact ⟨rfl, k1.trans (b2.mono k1.size)⟩
/-- The numbers of the cells. -/
def ecL (t : List Int × List Int → Int) (xs : Nat → List Int × List Int) (N : Nat) : List Int := (List.range N).map fun k => t (xs k)
theorem ecL_len (t : List Int × List Int → Int) (xs : Nat → List Int × List Int) (N : Nat) : (ecL t xs N).length = N := by simp [ecL]
theorem ecL_nth {t : List Int × List Int → Int} {xs : Nat → List Int × List Int} {N k : Nat} (h : k < N) : nth (ecL t xs N) k = t (xs k) := by
  rw [nth_lt (by rw [ecL_len]; exact h)]
  simp [ecL]
/-- How many lengths are the frame's. -/
def frN (rx ry : Nat) : Nat := rx - (ry - 1)
theorem frN_le (rx ry : Nat) : frN rx ry ≤ rx := by unfold frN; omega

set_option maxHeartbeats 4000000 in
set_option maxRecDepth 20000 in
theorem eachP (so ao : Option Addr) (sn sc an ac : Nat) (sh at' : List Int) (lo mo : Option Addr) (ln lc mn mc : Nat) (lh : List Int) (fb : Option Addr) (t : List Int × List Int → Int) (w : World) (h : Rd w so sn sh) (hs : Sl so sn sc) (g : Rd w ao an at') (gs : Sl ao an ac) (h0 : mayA sh at' = 0) (hl : Rd w lo ln lh)
    (hln : ln ≤ 8) (htb : ∀ x, -9223372036854775808 ≤ t x ∧ t x ≤ 9223372036854775807)
    (hT : ∀ V, Below w.heap.size w V → ∀ so' sn' sc' ao' an' ac' s a, Rd V so' sn' s → Rd V ao' an' a → Calls Tryz.prog 60 #[.agg #[.slice so' sn' sc', .slice ao' an' ac'], .pointer fb] V fun e w' => e = .returned (.int .i64 (t (s, a))) ∧ Below V.heap.size V w') :
    Calls Tryz.prog 59 #[.agg #[.slice so sn sc, .slice ao an ac], .agg #[.slice lo ln lc, .slice mo mn mc], .func (.func 60) #[] #[.pointer fb]] w fun e w' => ∃ o1 n1 c1 o2 n2 c2, e = .returned (.agg #[.slice o1 n1 c1, .slice o2 n2 c2]) ∧ Ft 3 w' w.heap.size o1 n1 c1 (sh.take (frN sn ln)) ∧ Ft 2 w' w.heap.size o2 n2 c2 (ecL t (cux sh at' (frN sn ln)) (cun sh (frN sn ln))) ∧ Below w.heap.size w w' := by
  have hsn8 : sn ≤ 8 := by rw [← h.len]; exact (mayF_zero (mayA_zero h0).1).2.1
  have k1 := box_below w (.cells #[.slice so sn sc, .slice ao an ac] 30)
  have b1 := allocNew w (.cells #[.slice so sn sc, .slice ao an ac] 30)
  have k2 := box_below (w.alloc (.cells #[.slice so sn sc, .slice ao an ac] 30)) (.cells #[.slice lo ln lc, .slice mo mn mc] 30)
  have b2 := allocNew (w.alloc (.cells #[.slice so sn sc, .slice ao an ac] 30)) (.cells #[.slice lo ln lc, .slice mo mn mc] 30)
  have k3 := box_below ((w.alloc (.cells #[.slice so sn sc, .slice ao an ac] 30)).alloc (.cells #[.slice lo ln lc, .slice mo mn mc] 30)) (.cells #[.slice none 0 0, .slice none 0 0] 30)
  have b3 := allocNew ((w.alloc (.cells #[.slice so sn sc, .slice ao an ac] 30)).alloc (.cells #[.slice lo ln lc, .slice mo mn mc] 30)) (.cells #[.slice none 0 0, .slice none 0 0] 30)
  simp only [World.size_alloc] at k2 b2 k3 b3
  have kk := (k1.trans (k2.mono (by omega))).trans (k3.mono (by omega))
  have hbA := (k3.block w.heap.size (by omega)).trans ((k2.block w.heap.size (by omega)).trans b1)
  have hbL := (k3.block (w.heap.size + 1) (by omega)).trans b2
  have hsz : (((w.alloc (.cells #[.slice so sn sc, .slice ao an ac] 30)).alloc (.cells #[.slice lo ln lc, .slice mo mn mc] 30)).alloc (.cells #[.slice none 0 0, .slice none 0 0] 30)).heap.size = w.heap.size + 1 + 1 + 1 := by simp
  obtain ⟨p, hp⟩ : ∃ p : Nat, frN sn ln = p := ⟨_, rfl⟩
  have hple : p ≤ sn := by rw [← hp]; exact frN_le _ _
  rw [hp]
  have hcut := cut_any so ao sn sc an ac sh at' p w _ kk h hs g gs h0 hple
  rw [hsz] at hcut
  obtain ⟨r, hr⟩ : ∃ r : Nat, r = ln - 1 := ⟨_, rfl⟩
  have hpr : p = sn - r := by rw [← hp, hr]; rfl
  generalize hxs : cux sh at' p = xs at *
  generalize hN : cun sh p = N at *
  have HT : Hid (∀ V, Below w.heap.size w V → ∀ so' sn' sc' ao' an' ac' s a, Rd V so' sn' s → Rd V ao' an' a → Calls Tryz.prog 60 #[.agg #[.slice so' sn' sc', .slice ao' an' ac'], .pointer fb] V fun e w' => e = .returned (.int .i64 (t (s, a))) ∧ Below V.heap.size V w') := hT
  have HR : Hid (r = ln - 1 ∧ p = sn - r) := ⟨hr, hpr⟩
  obtain ⟨x0, x1, _, _⟩ := box2 hbA
  obtain ⟨y0, y1, _, _⟩ := box2 hbL
  have w1 := wrY (z := (ln : Int) - 1) (by omega) (by omega)
  have w2 := wrY (z := (sn : Int) - (r : Int)) (by omega) (by omega)
  have HTB : Hid (∀ x, -9223372036854775808 ≤ t x ∧ t x ≤ 9223372036854775807) := htb
  clear hT htb hp hxs hN k1 k2 k3 b1 b2 h0 hr hpr
  generalize hWW : (((w.alloc (.cells #[.slice so sn sc, .slice ao an ac] 30)).alloc (.cells #[.slice lo ln lc, .slice mo mn mc] 30)).alloc (.cells #[.slice none 0 0, .slice none 0 0] 30)) = W at *
  have HM : Hid (Calls Tryz.prog 83 #[.agg #[.slice so sn sc, .slice ao an ac], .int .i64 (p : Nat)] W fun e w' => ∃ o1 c1 o2 c2 gg, e = .returned (.tuple #[.agg #[.slice o1 p c1, .slice o2 N c2], .slice (some ⟨gg, 0, none⟩) N N]) ∧ Ft 3 w' (w.heap.size + 1 + 1 + 1) o1 p c1 (sh.take p) ∧ Ft 2 w' (w.heap.size + 1 + 1 + 1) o2 N c2 (List.replicate N 0) ∧ apart o1 o2 ∧ (∀ b off, o1 = some ⟨b, off, none⟩ → b < gg) ∧ (∀ b off, o2 = some ⟨b, off, none⟩ → b < gg) ∧ (w.heap.size + 1 + 1 + 1) ≤ gg ∧ Below (w.heap.size + 1 + 1 + 1) W w' ∧ Cq gg N w w' xs) := hcut
  clear hcut
  subst hWW
  go_enter Tryz.func59, Tryz.ntmps59
  go_upto_region 1 with fail
  generalize hWW : (((w.alloc (.cells #[.slice so sn sc, .slice ao an ac] 30)).alloc (.cells #[.slice lo ln lc, .slice mo mn mc] 30)).alloc (.cells #[.slice none 0 0, .slice none 0 0] 30)) = W at *
  clear hWW
  go_cut [7] (fun s7 V => s7 = .int .i64 (r : Nat) ∧ V = W)
  case first =>
    by_cases c1 : 2 ≤ ln
    · have d1 : ¬ (ln : Int) - 1 < 0 := by omega
      have d2 : 0 < (ln : Int) - 1 := by omega
      go_wp2
      all_goals (go_meet; case rel => exact ⟨by rw [show (ln : Int) - 1 = (r : Int) by have := HR.out; omega], rfl⟩)
    · have d1 : ¬ 0 < (ln : Int) - 1 := by omega
      have d2 : (ln : Int) - 1 ≤ 0 := by omega
      go_wp2
      all_goals (go_meet; case rel => exact ⟨by rw [show (0 : Int) = (r : Int) by have := HR.out; omega], rfl⟩)
  case rest =>
    obtain ⟨rfl, rfl⟩ := hcut
    go_upto_region 2 with fail
    go_cut [8, 9] (fun s8 s9 V => ∃ o1 c1 o2 c2 gg zb, s8 = .pointer (some ⟨zb, 0, none⟩) ∧ s9 = .slice (some ⟨gg, 0, none⟩) N N ∧ Ed w V gg N zb xs o1 p c1 (sh.take p) o2 c2 (List.replicate N 0))
    case first =>
      by_cases c1 : r < sn
      · have d1 : ¬ (sn : Int) - (r : Int) < 0 := by omega
        have d2 : 0 < (sn : Int) - (r : Int) := by omega
        have ep : (sn : Int) - (r : Int) = (p : Int) := by have := HR.out; omega
        have d3 : 0 < (p : Int) := by omega
        have hcc := HM.out
        go_wp2_with (first
          | (go_at_call 83; (with_reducible refine hcc.mono ?_); rintro e V1 ⟨o1, c1, o2, c2, gg, rfl, f1, f2, hap, l1, l2, lg, lb, CQ⟩))
        all_goals
          go_meet
          case rel =>
            have kz := box_below V1 (.cells #[.slice o1 p c1, .slice o2 N c2] 30)
            have zb := allocNew V1 (.cells #[.slice o1 p c1, .slice o2 N c2] 30)
            have z0 := lb.size
            rw [hsz] at z0
            exact ⟨o1, c1, o2, c2, gg, V1.heap.size, rfl, rfl, (kk.trans (lb.mono (by omega))).trans (kz.mono (by omega)), (kz.block _ (by omega)).trans ((lb.block _ (by omega)).trans b3), zb, (f1.below kz (Nat.le_refl _)).mono (by omega), (f2.below kz (Nat.le_refl _)).mono (by omega), CQ.below kz⟩
      · have d1 : ¬ 0 < (sn : Int) - (r : Int) := by omega
        have d2 : (sn : Int) - (r : Int) ≤ 0 := by omega
        have hcc := HM.out
        rw [show ((p : Nat) : Int) = 0 by have := HR.out; omega] at hcc
        go_wp2_with (first
          | (go_at_call 83; (with_reducible refine hcc.mono ?_); rintro e V1 ⟨o1, c1, o2, c2, gg, rfl, f1, f2, hap, l1, l2, lg, lb, CQ⟩))
        all_goals
          go_meet
          case rel =>
            have kz := box_below V1 (.cells #[.slice o1 p c1, .slice o2 N c2] 30)
            have zb := allocNew V1 (.cells #[.slice o1 p c1, .slice o2 N c2] 30)
            have z0 := lb.size
            rw [hsz] at z0
            exact ⟨o1, c1, o2, c2, gg, V1.heap.size, rfl, rfl, (kk.trans (lb.mono (by omega))).trans (kz.mono (by omega)), (kz.block _ (by omega)).trans ((lb.block _ (by omega)).trans b3), zb, (f1.below kz (Nat.le_refl _)).mono (by omega), (f2.below kz (Nat.le_refl _)).mono (by omega), CQ.below kz⟩
    case rest =>
      obtain ⟨o1, c1, o2, c2, gg, zb, rfl, rfl, E0⟩ := hcut
      have hN4 := E0.itm.n4
      go_wp2
      go_loopw [30] (fun i V => ∃ (k : Nat) (zs : List Int), k ≤ N ∧ i = .int .i64 (k : Nat) ∧ Ed w V gg N zb xs o1 p c1 (sh.take p) o2 c2 zs ∧ ∀ j, j < k → nth zs j = t (xs j)) (fun i _ => N - (intOf i).toNat)
      case atStart => exact ⟨0, _, Nat.zero_le _, rfl, E0, fun j hj => by omega⟩
      case round =>
        obtain ⟨k, zs, hk, rfl, E, Z⟩ := hrel
        clear E0
        by_cases hlt : k < N
        · have t1 : decide ((k : Int) < (N : Int)) = true := by simp; omega
          have bk : (k : Int) < (N : Int) := by omega
          have wk := wrY (z := (k : Int) + 1) (by omega) (by omega)
          obtain ⟨b2, rfl, hb2, _, _⟩ := E.slot hlt
          obtain ⟨gb, goff, ge, hgl, hgc⟩ := E.itm.as.cells (by omega)
          cases ge
          obtain ⟨so', sn', sc', uo, tn, tc, a1, a2, a3, a4, a5, a6⟩ := hgc k hlt
          rw [Nat.zero_add] at a1 a2
          have ka := box_below wr (.cells #[.slice so' sn' sc', .slice uo tn tc] 30)
          have ba := allocNew wr (.cells #[.slice so' sn' sc', .slice uo tn tc] 30)
          have kd : Below wr.heap.size wr (wr.alloc (.cells #[.slice so' sn' sc', .slice uo tn tc] 30)).drew := ka.drew
          have E1 := E.below kd
          have hcall := HT.out _ E1.bel so' sn' sc' uo tn tc _ _ (a3.below kd (Nat.le_refl _)) (a5.below kd (Nat.le_refl _))
          have htk := HTB.out (xs k)
          rw [show ((xs k).1, (xs k).2) = xs k from rfl] at hcall
          have HZ : Hid (∀ j, j < k → nth zs j = t (xs j)) := Z
          have HX : Hid (∃ u, u = t (xs k)) := ⟨_, rfl⟩
          generalize hu : t (xs k) = u at *
          have HU : Hid (t (xs k) = u) := hu
          have cbx : ∀ U, Below (wr.heap.size + 1) (wr.alloc (.cells #[.slice so' sn' sc', .slice uo tn tc] 30)) U → U.cell? ⟨wr.heap.size, 0, none⟩ = some (.slice so' sn' sc') ∧ U.cell? ⟨wr.heap.size, 1, none⟩ = some (.slice uo tn tc) := fun U hU =>
            ⟨(hU.cell (p := ⟨wr.heap.size, 0, none⟩) (by simp)).trans ((cell_of_row _ _ 0 _ _ (0, 0) ba).trans rfl), (hU.cell (p := ⟨wr.heap.size, 1, none⟩) (by simp)).trans ((cell_of_row _ _ 1 _ _ (0, 0) ba).trans rfl)⟩
          have hrf : Below (wr.heap.size + 1) (wr.alloc (.cells #[.slice so' sn' sc', .slice uo tn tc] 30)) (wr.alloc (.cells #[.slice so' sn' sc', .slice uo tn tc] 30)) := Below.refl _ _
          have SA : _ ∧ _ ∧ _ := ⟨(box2 E1.out).2.1, (cbx _ hrf.drew).1, (cbx _ hrf.drew).2⟩
          clear hu HX hgc Z a3 a4 a5 a6
          go_wp2
          go_region_held3 (fun U => U.cell? ⟨zb, 1, none⟩ = some (.slice (some ⟨b2, 0, none⟩) N c2) ∧ U.cell? ⟨wr.heap.size, 0, none⟩ = some (.slice so' sn' sc') ∧ U.cell? ⟨wr.heap.size, 1, none⟩ = some (.slice uo tn tc)) (first | exact SA | exact S5 | exact S6)
            (first
              | (go_at_call 60; (with_reducible refine hcall.mono ?_); rintro e w5 ⟨rfl, b5⟩; have E5 := E1.below b5; obtain ⟨b2', eb, _, ⟨v5, cv5⟩, fz5⟩ := E5.slot hlt; cases eb; have S5 : _ ∧ _ ∧ _ := ⟨(box2 E5.out).2.1, (cbx _ (hrf.drew.trans (b5.mono (by simp)))).1, (cbx _ (hrf.drew.trans (b5.mono (by simp)))).2⟩; have E6 := E5.set hlt u htk.1 htk.2; have B6 : Below (wr.heap.size + 1) (wr.alloc (.cells #[.slice so' sn' sc', .slice uo tn tc] 30)) w5 := hrf.drew.trans (b5.mono (by simp)); have nb2 : some wr.heap.size ≠ some b2 := (fun e => E5.f2.nebox ((B6.block wr.heap.size (by omega)).trans ba) ty_ne2 b2 0 rfl e.symm); have cb6 := box2 (((set1 w5 b2 k (.int .i64 u)).block wr.heap.size (by have := b5.size; simp at this; omega) nb2).trans ((B6.block wr.heap.size (by omega)).trans ba)); have S6 : _ ∧ _ ∧ _ := ⟨(box2 E6.out).2.1, cb6.1, cb6.2.1⟩))
          go_wp2
          go_roundw
          case rel => exact ⟨k + 1, _, by omega, by go_num, E6, fun j hj => by
            rw [nth_setY (by rw [E.f2.rd.len]; exact hlt)]
            split
            · rename_i e; rw [e, HU.out]
            · exact HZ.out j (by omega)⟩
          case measure => simp [intOf]; omega
        · obtain rfl : k = N := by omega
          have t1 : decide ((k : Int) < (k : Int)) = false := by simp
          have ez : zs = ecL t xs k := ext_nth (by rw [E.f2.rd.len, ecL_len]) (fun j hj => by rw [E.f2.rd.len] at hj; rw [Z j hj, ecL_nth hj])
          subst ez
          obtain ⟨y0, y1, _, _⟩ := box2 E.out
          obtain ⟨r0, r1, r2, r3⟩ := box2 E.res
          clear Z
          go_wp2
          (try simp only [Exit.inBlock, Exit.then])
          refine bodyPost_ret (v := .agg #[.slice o1 p c1, .slice o2 k c2]) (by simp [results, Tryz.results59]; go_simp) rfl ?_
          have ks := set2 wr (w.heap.size + 1 + 1) 0 1 (.slice o1 p c1) (.slice o2 k c2)
          exact ⟨o1, p, c1, o2, k, c2, rfl, E.f1.keep1 ks (E.f1.nebox E.res ty_ne1), E.f2.keep1 ks (E.f2.nebox E.res ty_ne2), below_set2 _ _ _ _ E.bel (by omega) (Nat.le_refl _)⟩

set_option maxHeartbeats 4000000 in
set_option maxRecDepth 20000 in
theorem eachI (so ao : Option Addr) (sn sc an ac : Nat) (sh at' : List Int) (lo mo : Option Addr) (ln lc mn mc : Nat) (lh : List Int) (fb : Option Addr) (t : List Int × List Int → Int) (w : World) (h : Rd w so sn sh) (hs : Sl so sn sc) (g : Rd w ao an at') (gs : Sl ao an ac) (h0 : mayA sh at' = 0) (hl : Rd w lo ln lh)
    (hln : ln ≤ 8) (htb : ∀ x, -9223372036854775808 ≤ t x ∧ t x ≤ 9223372036854775807)
    (hT : ∀ V, Below w.heap.size w V → ∀ so' sn' sc' ao' an' ac' s a, Rd V so' sn' s → Rd V ao' an' a → Calls Tryz.prog 62 #[.agg #[.slice so' sn' sc', .slice ao' an' ac'], .pointer fb] V fun e w' => e = .returned (.int .i64 (t (s, a))) ∧ Below V.heap.size V w') :
    Calls Tryz.prog 59 #[.agg #[.slice so sn sc, .slice ao an ac], .agg #[.slice lo ln lc, .slice mo mn mc], .func (.func 62) #[] #[.pointer fb]] w fun e w' => ∃ o1 n1 c1 o2 n2 c2, e = .returned (.agg #[.slice o1 n1 c1, .slice o2 n2 c2]) ∧ Ft 3 w' w.heap.size o1 n1 c1 (sh.take (frN sn ln)) ∧ Ft 2 w' w.heap.size o2 n2 c2 (ecL t (cux sh at' (frN sn ln)) (cun sh (frN sn ln))) ∧ Below w.heap.size w w' := by
  have hsn8 : sn ≤ 8 := by rw [← h.len]; exact (mayF_zero (mayA_zero h0).1).2.1
  have k1 := box_below w (.cells #[.slice so sn sc, .slice ao an ac] 30)
  have b1 := allocNew w (.cells #[.slice so sn sc, .slice ao an ac] 30)
  have k2 := box_below (w.alloc (.cells #[.slice so sn sc, .slice ao an ac] 30)) (.cells #[.slice lo ln lc, .slice mo mn mc] 30)
  have b2 := allocNew (w.alloc (.cells #[.slice so sn sc, .slice ao an ac] 30)) (.cells #[.slice lo ln lc, .slice mo mn mc] 30)
  have k3 := box_below ((w.alloc (.cells #[.slice so sn sc, .slice ao an ac] 30)).alloc (.cells #[.slice lo ln lc, .slice mo mn mc] 30)) (.cells #[.slice none 0 0, .slice none 0 0] 30)
  have b3 := allocNew ((w.alloc (.cells #[.slice so sn sc, .slice ao an ac] 30)).alloc (.cells #[.slice lo ln lc, .slice mo mn mc] 30)) (.cells #[.slice none 0 0, .slice none 0 0] 30)
  simp only [World.size_alloc] at k2 b2 k3 b3
  have kk := (k1.trans (k2.mono (by omega))).trans (k3.mono (by omega))
  have hbA := (k3.block w.heap.size (by omega)).trans ((k2.block w.heap.size (by omega)).trans b1)
  have hbL := (k3.block (w.heap.size + 1) (by omega)).trans b2
  have hsz : (((w.alloc (.cells #[.slice so sn sc, .slice ao an ac] 30)).alloc (.cells #[.slice lo ln lc, .slice mo mn mc] 30)).alloc (.cells #[.slice none 0 0, .slice none 0 0] 30)).heap.size = w.heap.size + 1 + 1 + 1 := by simp
  obtain ⟨p, hp⟩ : ∃ p : Nat, frN sn ln = p := ⟨_, rfl⟩
  have hple : p ≤ sn := by rw [← hp]; exact frN_le _ _
  rw [hp]
  have hcut := cut_any so ao sn sc an ac sh at' p w _ kk h hs g gs h0 hple
  rw [hsz] at hcut
  obtain ⟨r, hr⟩ : ∃ r : Nat, r = ln - 1 := ⟨_, rfl⟩
  have hpr : p = sn - r := by rw [← hp, hr]; rfl
  generalize hxs : cux sh at' p = xs at *
  generalize hN : cun sh p = N at *
  have HT : Hid (∀ V, Below w.heap.size w V → ∀ so' sn' sc' ao' an' ac' s a, Rd V so' sn' s → Rd V ao' an' a → Calls Tryz.prog 62 #[.agg #[.slice so' sn' sc', .slice ao' an' ac'], .pointer fb] V fun e w' => e = .returned (.int .i64 (t (s, a))) ∧ Below V.heap.size V w') := hT
  have HR : Hid (r = ln - 1 ∧ p = sn - r) := ⟨hr, hpr⟩
  obtain ⟨x0, x1, _, _⟩ := box2 hbA
  obtain ⟨y0, y1, _, _⟩ := box2 hbL
  have w1 := wrY (z := (ln : Int) - 1) (by omega) (by omega)
  have w2 := wrY (z := (sn : Int) - (r : Int)) (by omega) (by omega)
  have HTB : Hid (∀ x, -9223372036854775808 ≤ t x ∧ t x ≤ 9223372036854775807) := htb
  clear hT htb hp hxs hN k1 k2 k3 b1 b2 h0 hr hpr
  generalize hWW : (((w.alloc (.cells #[.slice so sn sc, .slice ao an ac] 30)).alloc (.cells #[.slice lo ln lc, .slice mo mn mc] 30)).alloc (.cells #[.slice none 0 0, .slice none 0 0] 30)) = W at *
  have HM : Hid (Calls Tryz.prog 83 #[.agg #[.slice so sn sc, .slice ao an ac], .int .i64 (p : Nat)] W fun e w' => ∃ o1 c1 o2 c2 gg, e = .returned (.tuple #[.agg #[.slice o1 p c1, .slice o2 N c2], .slice (some ⟨gg, 0, none⟩) N N]) ∧ Ft 3 w' (w.heap.size + 1 + 1 + 1) o1 p c1 (sh.take p) ∧ Ft 2 w' (w.heap.size + 1 + 1 + 1) o2 N c2 (List.replicate N 0) ∧ apart o1 o2 ∧ (∀ b off, o1 = some ⟨b, off, none⟩ → b < gg) ∧ (∀ b off, o2 = some ⟨b, off, none⟩ → b < gg) ∧ (w.heap.size + 1 + 1 + 1) ≤ gg ∧ Below (w.heap.size + 1 + 1 + 1) W w' ∧ Cq gg N w w' xs) := hcut
  clear hcut
  subst hWW
  go_enter Tryz.func59, Tryz.ntmps59
  go_upto_region 1 with fail
  generalize hWW : (((w.alloc (.cells #[.slice so sn sc, .slice ao an ac] 30)).alloc (.cells #[.slice lo ln lc, .slice mo mn mc] 30)).alloc (.cells #[.slice none 0 0, .slice none 0 0] 30)) = W at *
  clear hWW
  go_cut [7] (fun s7 V => s7 = .int .i64 (r : Nat) ∧ V = W)
  case first =>
    by_cases c1 : 2 ≤ ln
    · have d1 : ¬ (ln : Int) - 1 < 0 := by omega
      have d2 : 0 < (ln : Int) - 1 := by omega
      go_wp2
      all_goals (go_meet; case rel => exact ⟨by rw [show (ln : Int) - 1 = (r : Int) by have := HR.out; omega], rfl⟩)
    · have d1 : ¬ 0 < (ln : Int) - 1 := by omega
      have d2 : (ln : Int) - 1 ≤ 0 := by omega
      go_wp2
      all_goals (go_meet; case rel => exact ⟨by rw [show (0 : Int) = (r : Int) by have := HR.out; omega], rfl⟩)
  case rest =>
    obtain ⟨rfl, rfl⟩ := hcut
    go_upto_region 2 with fail
    go_cut [8, 9] (fun s8 s9 V => ∃ o1 c1 o2 c2 gg zb, s8 = .pointer (some ⟨zb, 0, none⟩) ∧ s9 = .slice (some ⟨gg, 0, none⟩) N N ∧ Ed w V gg N zb xs o1 p c1 (sh.take p) o2 c2 (List.replicate N 0))
    case first =>
      by_cases c1 : r < sn
      · have d1 : ¬ (sn : Int) - (r : Int) < 0 := by omega
        have d2 : 0 < (sn : Int) - (r : Int) := by omega
        have ep : (sn : Int) - (r : Int) = (p : Int) := by have := HR.out; omega
        have d3 : 0 < (p : Int) := by omega
        have hcc := HM.out
        go_wp2_with (first
          | (go_at_call 83; (with_reducible refine hcc.mono ?_); rintro e V1 ⟨o1, c1, o2, c2, gg, rfl, f1, f2, hap, l1, l2, lg, lb, CQ⟩))
        all_goals
          go_meet
          case rel =>
            have kz := box_below V1 (.cells #[.slice o1 p c1, .slice o2 N c2] 30)
            have zb := allocNew V1 (.cells #[.slice o1 p c1, .slice o2 N c2] 30)
            have z0 := lb.size
            rw [hsz] at z0
            exact ⟨o1, c1, o2, c2, gg, V1.heap.size, rfl, rfl, (kk.trans (lb.mono (by omega))).trans (kz.mono (by omega)), (kz.block _ (by omega)).trans ((lb.block _ (by omega)).trans b3), zb, (f1.below kz (Nat.le_refl _)).mono (by omega), (f2.below kz (Nat.le_refl _)).mono (by omega), CQ.below kz⟩
      · have d1 : ¬ 0 < (sn : Int) - (r : Int) := by omega
        have d2 : (sn : Int) - (r : Int) ≤ 0 := by omega
        have hcc := HM.out
        rw [show ((p : Nat) : Int) = 0 by have := HR.out; omega] at hcc
        go_wp2_with (first
          | (go_at_call 83; (with_reducible refine hcc.mono ?_); rintro e V1 ⟨o1, c1, o2, c2, gg, rfl, f1, f2, hap, l1, l2, lg, lb, CQ⟩))
        all_goals
          go_meet
          case rel =>
            have kz := box_below V1 (.cells #[.slice o1 p c1, .slice o2 N c2] 30)
            have zb := allocNew V1 (.cells #[.slice o1 p c1, .slice o2 N c2] 30)
            have z0 := lb.size
            rw [hsz] at z0
            exact ⟨o1, c1, o2, c2, gg, V1.heap.size, rfl, rfl, (kk.trans (lb.mono (by omega))).trans (kz.mono (by omega)), (kz.block _ (by omega)).trans ((lb.block _ (by omega)).trans b3), zb, (f1.below kz (Nat.le_refl _)).mono (by omega), (f2.below kz (Nat.le_refl _)).mono (by omega), CQ.below kz⟩
    case rest =>
      obtain ⟨o1, c1, o2, c2, gg, zb, rfl, rfl, E0⟩ := hcut
      have hN4 := E0.itm.n4
      go_wp2
      go_loopw [30] (fun i V => ∃ (k : Nat) (zs : List Int), k ≤ N ∧ i = .int .i64 (k : Nat) ∧ Ed w V gg N zb xs o1 p c1 (sh.take p) o2 c2 zs ∧ ∀ j, j < k → nth zs j = t (xs j)) (fun i _ => N - (intOf i).toNat)
      case atStart => exact ⟨0, _, Nat.zero_le _, rfl, E0, fun j hj => by omega⟩
      case round =>
        obtain ⟨k, zs, hk, rfl, E, Z⟩ := hrel
        clear E0
        by_cases hlt : k < N
        · have t1 : decide ((k : Int) < (N : Int)) = true := by simp; omega
          have bk : (k : Int) < (N : Int) := by omega
          have wk := wrY (z := (k : Int) + 1) (by omega) (by omega)
          obtain ⟨b2, rfl, hb2, _, _⟩ := E.slot hlt
          obtain ⟨gb, goff, ge, hgl, hgc⟩ := E.itm.as.cells (by omega)
          cases ge
          obtain ⟨so', sn', sc', uo, tn, tc, a1, a2, a3, a4, a5, a6⟩ := hgc k hlt
          rw [Nat.zero_add] at a1 a2
          have ka := box_below wr (.cells #[.slice so' sn' sc', .slice uo tn tc] 30)
          have ba := allocNew wr (.cells #[.slice so' sn' sc', .slice uo tn tc] 30)
          have kd : Below wr.heap.size wr (wr.alloc (.cells #[.slice so' sn' sc', .slice uo tn tc] 30)).drew := ka.drew
          have E1 := E.below kd
          have hcall := HT.out _ E1.bel so' sn' sc' uo tn tc _ _ (a3.below kd (Nat.le_refl _)) (a5.below kd (Nat.le_refl _))
          have htk := HTB.out (xs k)
          rw [show ((xs k).1, (xs k).2) = xs k from rfl] at hcall
          have HZ : Hid (∀ j, j < k → nth zs j = t (xs j)) := Z
          have HX : Hid (∃ u, u = t (xs k)) := ⟨_, rfl⟩
          generalize hu : t (xs k) = u at *
          have HU : Hid (t (xs k) = u) := hu
          have cbx : ∀ U, Below (wr.heap.size + 1) (wr.alloc (.cells #[.slice so' sn' sc', .slice uo tn tc] 30)) U → U.cell? ⟨wr.heap.size, 0, none⟩ = some (.slice so' sn' sc') ∧ U.cell? ⟨wr.heap.size, 1, none⟩ = some (.slice uo tn tc) := fun U hU =>
            ⟨(hU.cell (p := ⟨wr.heap.size, 0, none⟩) (by simp)).trans ((cell_of_row _ _ 0 _ _ (0, 0) ba).trans rfl), (hU.cell (p := ⟨wr.heap.size, 1, none⟩) (by simp)).trans ((cell_of_row _ _ 1 _ _ (0, 0) ba).trans rfl)⟩
          have hrf : Below (wr.heap.size + 1) (wr.alloc (.cells #[.slice so' sn' sc', .slice uo tn tc] 30)) (wr.alloc (.cells #[.slice so' sn' sc', .slice uo tn tc] 30)) := Below.refl _ _
          have SA : _ ∧ _ ∧ _ := ⟨(box2 E1.out).2.1, (cbx _ hrf.drew).1, (cbx _ hrf.drew).2⟩
          clear hu HX hgc Z a3 a4 a5 a6
          go_wp2
          go_region_held3 (fun U => U.cell? ⟨zb, 1, none⟩ = some (.slice (some ⟨b2, 0, none⟩) N c2) ∧ U.cell? ⟨wr.heap.size, 0, none⟩ = some (.slice so' sn' sc') ∧ U.cell? ⟨wr.heap.size, 1, none⟩ = some (.slice uo tn tc)) (first | exact SA | exact S5 | exact S6)
            (first
              | (go_at_call 62; (with_reducible refine hcall.mono ?_); rintro e w5 ⟨rfl, b5⟩; have E5 := E1.below b5; obtain ⟨b2', eb, _, ⟨v5, cv5⟩, fz5⟩ := E5.slot hlt; cases eb; have S5 : _ ∧ _ ∧ _ := ⟨(box2 E5.out).2.1, (cbx _ (hrf.drew.trans (b5.mono (by simp)))).1, (cbx _ (hrf.drew.trans (b5.mono (by simp)))).2⟩; have E6 := E5.set hlt u htk.1 htk.2; have B6 : Below (wr.heap.size + 1) (wr.alloc (.cells #[.slice so' sn' sc', .slice uo tn tc] 30)) w5 := hrf.drew.trans (b5.mono (by simp)); have nb2 : some wr.heap.size ≠ some b2 := (fun e => E5.f2.nebox ((B6.block wr.heap.size (by omega)).trans ba) ty_ne2 b2 0 rfl e.symm); have cb6 := box2 (((set1 w5 b2 k (.int .i64 u)).block wr.heap.size (by have := b5.size; simp at this; omega) nb2).trans ((B6.block wr.heap.size (by omega)).trans ba)); have S6 : _ ∧ _ ∧ _ := ⟨(box2 E6.out).2.1, cb6.1, cb6.2.1⟩))
          go_wp2
          go_roundw
          case rel => exact ⟨k + 1, _, by omega, by go_num, E6, fun j hj => by
            rw [nth_setY (by rw [E.f2.rd.len]; exact hlt)]
            split
            · rename_i e; rw [e, HU.out]
            · exact HZ.out j (by omega)⟩
          case measure => simp [intOf]; omega
        · obtain rfl : k = N := by omega
          have t1 : decide ((k : Int) < (k : Int)) = false := by simp
          have ez : zs = ecL t xs k := ext_nth (by rw [E.f2.rd.len, ecL_len]) (fun j hj => by rw [E.f2.rd.len] at hj; rw [Z j hj, ecL_nth hj])
          subst ez
          obtain ⟨y0, y1, _, _⟩ := box2 E.out
          obtain ⟨r0, r1, r2, r3⟩ := box2 E.res
          clear Z
          go_wp2
          (try simp only [Exit.inBlock, Exit.then])
          refine bodyPost_ret (v := .agg #[.slice o1 p c1, .slice o2 k c2]) (by simp [results, Tryz.results59]; go_simp) rfl ?_
          have ks := set2 wr (w.heap.size + 1 + 1) 0 1 (.slice o1 p c1) (.slice o2 k c2)
          exact ⟨o1, p, c1, o2, k, c2, rfl, E.f1.keep1 ks (E.f1.nebox E.res ty_ne1), E.f2.keep1 ks (E.f2.nebox E.res ty_ne2), below_set2 _ _ _ _ E.bel (by omega) (Nat.le_refl _)⟩
end Go.Proofs.YtmepcenbaohcoaaGreat
