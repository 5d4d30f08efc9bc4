
/- Contracts of package seek: the verbs. -/

import Derived.Test.YtlajainnpnbcaaaYK

namespace Go.Proofs.Ytlajainnpnbcaaa

open Go.RowKit

set_option linter.unusedVariables false

/-- Between two rounds of eachCell: the numbers lie in the row o2, the cells in the row gg, the cell of the round in the box cb. -/
structure Ed (w V : World) (gg N zb : Nat) (xs : Nat → List Int × List Int) (o1 : Option Addr) (n1 c1 : Nat) (sh1 : List Int) (o2 : Option Addr) (c2 : Nat) (zs : List Int) : Prop where
  bel : Below w.heap.size w V
  res : V.heap[w.heap.size + 1 + 1]? = some (.cells #[.slice none 0 0, .slice none 0 0] 36 (0, 0))
  out : V.heap[zb]? = some (.cells #[.slice o1 n1 c1, .slice o2 N c2] 36 (0, 0))
  f1 : Ft 3 V w.heap.size o1 n1 c1 sh1
  f2 : Ft 2 V w.heap.size o2 N c2 zs
  itm : Cq gg N w V xs
theorem Ed.below {w V V' : World} {gg N zb : Nat} {xs : Nat → List Int × List Int} {o1 : Option Addr} {n1 c1 : Nat} {sh1 : List Int} {o2 : Option Addr} {c2 : Nat} {zs : List Int} (h : Ed w V gg N zb xs o1 n1 c1 sh1 o2 c2 zs) (b : Below V.heap.size V V') : Ed w V' gg N zb xs o1 n1 c1 sh1 o2 c2 zs :=
  ⟨h.bel.trans (b.mono h.bel.size), (b.block _ (Array.getElem?_eq_some_iff.1 h.res).1).trans h.res, (b.block _ (Array.getElem?_eq_some_iff.1 h.out).1).trans h.out, h.f1.below b (Nat.le_refl _), h.f2.below b (Nat.le_refl _), h.itm.below b⟩
theorem Ed.set {w V : World} {gg N zb : Nat} {xs : Nat → List Int × List Int} {o1 : Option Addr} {n1 c1 : Nat} {sh1 : List Int} {b2 c2 : Nat} {zs : List Int} (h : Ed w V gg N zb xs o1 n1 c1 sh1 (some ⟨b2, 0, none⟩) c2 zs) {k : Nat} (hk : k < N) (u : Int) (h1 : -9223372036854775808 ≤ u) (h2 : u ≤ 9223372036854775807) :
    Ed w (V.setCell ⟨b2, k, none⟩ (.int .i64 u)) gg N zb xs o1 n1 c1 sh1 (some ⟨b2, 0, none⟩) c2 (zs.set k u) := by
  have kk := set1 V b2 k (.int .i64 u)
  have lt : ∀ {b cs t}, V.heap[b]? = some (.cells cs t (0, 0)) → b < V.heap.size := fun hb => (Array.getElem?_eq_some_iff.1 hb).1
  have ne : ∀ {b cs t}, V.heap[b]? = some (.cells cs t (0, 0)) → 2 ≠ t → some b ≠ some b2 := fun hb ht e => h.f2.nebox hb ht b2 0 rfl e.symm
  have hb2 := (h.f2.at b2 0 rfl).1
  have bV := h.bel.setCell (p := ⟨b2, k, none⟩) hb2 (.int .i64 u)
  obtain ⟨cur, i1, i2, i3⟩ := h.itm.row
  have f1 := h.f1.keep1 kk (fun b off e e2 => by
    injection e2 with e2
    subst e2
    rcases h.f2.own.2 with ⟨e4, h0⟩ | ⟨g', c', cur', e4, hB2, hg2, r⟩
    · cases e4
    · injection e4 with e5; cases e5
      exact h.f1.nebox hg2 ty_ne3 _ _ e rfl)
  exact ⟨bV, (kk.block _ (lt h.res) (ne h.res ty_ne2)).trans h.res, (kk.block _ (lt h.out) (ne h.out ty_ne2)).trans h.out, f1, h.f2.setY k hk u h1 h2, h.itm.keep bV (kk.block gg (lt i1) (ne i1 ty_ne2))⟩
theorem Ed.slot {w V : World} {gg N zb : Nat} {xs : Nat → List Int × List Int} {o1 : Option Addr} {n1 c1 : Nat} {sh1 : List Int} {o2 : Option Addr} {c2 : Nat} {zs : List Int} (h : Ed w V gg N zb xs o1 n1 c1 sh1 o2 c2 zs) {k : Nat} (hk : k < N) : ∃ b2, o2 = some ⟨b2, 0, none⟩ ∧ w.heap.size ≤ b2 ∧ (∃ v, V.cell? ⟨b2, k, none⟩ = some v) ∧ V.frozen? ⟨b2, k, none⟩ = false := by
  rcases h.f2.own.2 with ⟨e1, h0⟩ | ⟨g', c', cur, e1, hB2, hg, r⟩
  · omega
  · injection e1 with e2
    obtain ⟨b, off, e, hb, hc⟩ := h.f2.rd.cells (by omega)
    rw [e2] at e
    cases e
    have c := hc k hk
    rw [Nat.zero_add] at c
    exact ⟨g', e2, hB2, ⟨_, c⟩, frozen_of_row V g' k _ _ hg⟩

/-- The place, or whether it is there. -/
def tP (xs : Nat → List Int × List Int) (n : Nat) (t : List Int × List Int) : Int := (fsq xs n t : Nat)
def tI (xs : Nat → List Int × List Int) (n : Nat) (t : List Int × List Int) : Int := if fsq xs n t < n then 1 else 0

set_option maxHeartbeats 1000000 in
theorem place1_any (io : Option Addr) (n ic : Nat) (po : Option Addr) (pc : Nat) (xs : Nat → List Int × List Int) (so ao : Option Addr) (sn sc an ac : Nat) (s a : List Int) (fb : Nat) (w : World) (hf : w.heap[fb]? = some (.cells #[.slice io n ic, .slice po n pc] 66 (0, 0))) (h : Fnd w io n ic po pc xs) (hs : Rd w so sn s) (ha : Rd w ao an a) :
    Calls Try.prog 39 #[.agg #[.slice so sn sc, .slice ao an ac], .pointer (some ⟨fb, 0, none⟩)] w fun e w' => e = .returned (.int .i64 (tP xs n (s, a))) ∧ Below w.heap.size w w' := by
  have k1 := box_below w (.cells #[.slice so sn sc, .slice ao an ac] 36)
  obtain ⟨q0, q1, _, _⟩ := box2 ((k1.block fb (Array.getElem?_eq_some_iff.1 hf).1).trans hf)
  have hc := first_any io n ic po pc xs so ao sn sc an ac s a _ (h.below k1 (Nat.le_refl _)) (hs.below k1 (Nat.le_refl _)) (ha.below k1 (Nat.le_refl _))
  unfold tP
  generalize fsq xs n (s, a) = r at *
  go_enter Try.func39, Try.ntmps39
  go_wp2_with (first | (go_at_call 40; (with_reducible refine hc.mono ?_); rintro e w2 ⟨rfl, b2⟩))
  go_ret
  exact ⟨rfl, k1.trans (b2.mono k1.size)⟩

set_option maxHeartbeats 1000000 in
theorem isIn1_any (io : Option Addr) (n ic : Nat) (po : Option Addr) (pc : Nat) (xs : Nat → List Int × List Int) (so ao : Option Addr) (sn sc an ac : Nat) (s a : List Int) (fb : Nat) (w : World) (hf : w.heap[fb]? = some (.cells #[.slice io n ic, .slice po n pc] 66 (0, 0))) (h : Fnd w io n ic po pc xs) (hs : Rd w so sn s) (ha : Rd w ao an a) :
    Calls Try.prog 41 #[.agg #[.slice so sn sc, .slice ao an ac], .pointer (some ⟨fb, 0, none⟩)] w fun e w' => e = .returned (.int .i64 (tI xs n (s, a))) ∧ Below w.heap.size w w' := by
  have k1 := box_below w (.cells #[.slice so sn sc, .slice ao an ac] 36)
  obtain ⟨q0, q1, _, _⟩ := box2 ((k1.block fb (Array.getElem?_eq_some_iff.1 hf).1).trans hf)
  have hc := has_any io n ic po pc xs so ao sn sc an ac s a _ (h.below k1 (Nat.le_refl _)) (hs.below k1 (Nat.le_refl _)) (ha.below k1 (Nat.le_refl _))
  have ht := fun V => truth_any (decide (fsq xs n (s, a) < n)) V
  have e : (if (decide (fsq xs n (s, a) < n)) = true then (1 : Int) else 0) = tI xs n (s, a) := by unfold tI; simp
  rw [e] at ht
  generalize tI xs n (s, a) = r at *
  generalize decide (fsq xs n (s, a) < n) = d at *
  clear e
  go_enter Try.func41, Try.ntmps41
  go_wp2_with (first
    | (go_at_call 43; (with_reducible refine hc.mono ?_); rintro e w2 ⟨rfl, b2⟩)
    | (go_at_call 42; (with_reducible refine (ht _).mono ?_); rintro e w3 ⟨rfl, hw3⟩; rw [hw3]; clear hw3 w3))
  go_ret
  exact ⟨rfl, k1.trans (b2.mono k1.size)⟩
/-- The numbers of the cells. -/
def ecL (t : List Int × List Int → Int) (xs : Nat → List Int × List Int) (N : Nat) : List Int := (List.range N).map fun k => t (xs k)
theorem ecL_len (t : List Int × List Int → Int) (xs : Nat → List Int × List Int) (N : Nat) : (ecL t xs N).length = N := by simp [ecL]
theorem ecL_nth {t : List Int × List Int → Int} {xs : Nat → List Int × List Int} {N k : Nat} (h : k < N) : nth (ecL t xs N) k = t (xs k) := by
  rw [nth_lt (by rw [ecL_len]; exact h)]
  simp [ecL]
/-- How many lengths are the frame's. -/
def frN (rx ry : Nat) : Nat := rx - (ry - 1)
theorem frN_le (rx ry : Nat) : frN rx ry ≤ rx := by unfold frN; omega

set_option maxHeartbeats 4000000 in
set_option maxRecDepth 20000 in
theorem eachP (so ao : Option Addr) (sn sc an ac : Nat) (sh at' : List Int) (lo mo : Option Addr) (ln lc mn mc : Nat) (lh : List Int) (fb : Option Addr) (t : List Int × List Int → Int) (w : World) (h : Rd w so sn sh) (hs : Sl so sn sc) (g : Rd w ao an at') (gs : Sl ao an ac) (h0 : mayA sh at' = 0) (hl : Rd w lo ln lh)
    (hln : ln ≤ 8) (htb : ∀ x, -9223372036854775808 ≤ t x ∧ t x ≤ 9223372036854775807)
    (hT : ∀ V, Below w.heap.size w V → ∀ so' sn' sc' ao' an' ac' s a, Rd V so' sn' s → Rd V ao' an' a → Calls Try.prog 39 #[.agg #[.slice so' sn' sc', .slice ao' an' ac'], .pointer fb] V fun e w' => e = .returned (.int .i64 (t (s, a))) ∧ Below V.heap.size V w') :
    Calls Try.prog 38 #[.agg #[.slice so sn sc, .slice ao an ac], .agg #[.slice lo ln lc, .slice mo mn mc], .func (.func 39) #[] #[.pointer fb]] w fun e w' => ∃ o1 n1 c1 o2 n2 c2, e = .returned (.agg #[.slice o1 n1 c1, .slice o2 n2 c2]) ∧ Ft 3 w' w.heap.size o1 n1 c1 (sh.take (frN sn ln)) ∧ Ft 2 w' w.heap.size o2 n2 c2 (ecL t (cux sh at' (frN sn ln)) (cun sh (frN sn ln))) ∧ Below w.heap.size w w' := by
  have hsn8 : sn ≤ 8 := by rw [← h.len]; exact (mayF_zero (mayA_zero h0).1).2.1
  have k1 := box_below w (.cells #[.slice so sn sc, .slice ao an ac] 36)
  have b1 := allocNew w (.cells #[.slice so sn sc, .slice ao an ac] 36)
  have k2 := box_below (w.alloc (.cells #[.slice so sn sc, .slice ao an ac] 36)) (.cells #[.slice lo ln lc, .slice mo mn mc] 36)
  have b2 := allocNew (w.alloc (.cells #[.slice so sn sc, .slice ao an ac] 36)) (.cells #[.slice lo ln lc, .slice mo mn mc] 36)
  have k3 := box_below ((w.alloc (.cells #[.slice so sn sc, .slice ao an ac] 36)).alloc (.cells #[.slice lo ln lc, .slice mo mn mc] 36)) (.cells #[.slice none 0 0, .slice none 0 0] 36)
  have b3 := allocNew ((w.alloc (.cells #[.slice so sn sc, .slice ao an ac] 36)).alloc (.cells #[.slice lo ln lc, .slice mo mn mc] 36)) (.cells #[.slice none 0 0, .slice none 0 0] 36)
  simp only [World.size_alloc] at k2 b2 k3 b3
  have kk := (k1.trans (k2.mono (by omega))).trans (k3.mono (by omega))
  have hbA := (k3.block w.heap.size (by omega)).trans ((k2.block w.heap.size (by omega)).trans b1)
  have hbL := (k3.block (w.heap.size + 1) (by omega)).trans b2
  have hsz : (((w.alloc (.cells #[.slice so sn sc, .slice ao an ac] 36)).alloc (.cells #[.slice lo ln lc, .slice mo mn mc] 36)).alloc (.cells #[.slice none 0 0, .slice none 0 0] 36)).heap.size = w.heap.size + 1 + 1 + 1 := by simp
  obtain ⟨p, hp⟩ : ∃ p : Nat, frN sn ln = p := ⟨_, rfl⟩
  have hple : p ≤ sn := by rw [← hp]; exact frN_le _ _
  rw [hp]
  have hcut := cut_any so ao sn sc an ac sh at' p w _ kk h hs g gs h0 hple
  rw [hsz] at hcut
  obtain ⟨r, hr⟩ : ∃ r : Nat, r = ln - 1 := ⟨_, rfl⟩
  have hpr : p = sn - r := by rw [← hp, hr]; rfl
  generalize hxs : cux sh at' p = xs at *
  generalize hN : cun sh p = N at *
  have HT : Hid (∀ V, Below w.heap.size w V → ∀ so' sn' sc' ao' an' ac' s a, Rd V so' sn' s → Rd V ao' an' a → Calls Try.prog 39 #[.agg #[.slice so' sn' sc', .slice ao' an' ac'], .pointer fb] V fun e w' => e = .returned (.int .i64 (t (s, a))) ∧ Below V.heap.size V w') := hT
  have HR : Hid (r = ln - 1 ∧ p = sn - r) := ⟨hr, hpr⟩
  obtain ⟨x0, x1, _, _⟩ := box2 hbA
  obtain ⟨y0, y1, _, _⟩ := box2 hbL
  have w1 := wrY (z := (ln : Int) - 1) (by omega) (by omega)
  have w2 := wrY (z := (sn : Int) - (r : Int)) (by omega) (by omega)
  have HTB : Hid (∀ x, -9223372036854775808 ≤ t x ∧ t x ≤ 9223372036854775807) := htb
  clear hT htb hp hxs hN k1 k2 k3 b1 b2 h0 hr hpr
  generalize hWW : (((w.alloc (.cells #[.slice so sn sc, .slice ao an ac] 36)).alloc (.cells #[.slice lo ln lc, .slice mo mn mc] 36)).alloc (.cells #[.slice none 0 0, .slice none 0 0] 36)) = W at *
  have HM : Hid (Calls Try.prog 59 #[.agg #[.slice so sn sc, .slice ao an ac], .int .i64 (p : Nat)] W fun e w' => ∃ o1 c1 o2 c2 gg, e = .returned (.tuple #[.agg #[.slice o1 p c1, .slice o2 N c2], .slice (some ⟨gg, 0, none⟩) N N]) ∧ Ft 3 w' (w.heap.size + 1 + 1 + 1) o1 p c1 (sh.take p) ∧ Ft 2 w' (w.heap.size + 1 + 1 + 1) o2 N c2 (List.replicate N 0) ∧ apart o1 o2 ∧ (∀ b off, o1 = some ⟨b, off, none⟩ → b < gg) ∧ (∀ b off, o2 = some ⟨b, off, none⟩ → b < gg) ∧ (w.heap.size + 1 + 1 + 1) ≤ gg ∧ Below (w.heap.size + 1 + 1 + 1) W w' ∧ Cq gg N w w' xs) := hcut
  clear hcut
  subst hWW
  go_enter Try.func38, Try.ntmps38
  go_upto_region 1 with fail
  generalize hWW : (((w.alloc (.cells #[.slice so sn sc, .slice ao an ac] 36)).alloc (.cells #[.slice lo ln lc, .slice mo mn mc] 36)).alloc (.cells #[.slice none 0 0, .slice none 0 0] 36)) = W at *
  clear hWW
  go_cut [7] (fun s7 V => s7 = .int .i64 (r : Nat) ∧ V = W)
  case first =>
    by_cases c1 : 2 ≤ ln
    · have d1 : ¬ (ln : Int) - 1 < 0 := by omega
      have d2 : 0 < (ln : Int) - 1 := by omega
      go_wp2
      all_goals (go_meet; case rel => exact ⟨by rw [show (ln : Int) - 1 = (r : Int) by have := HR.out; omega], rfl⟩)
    · have d1 : ¬ 0 < (ln : Int) - 1 := by omega
      have d2 : (ln : Int) - 1 ≤ 0 := by omega
      go_wp2
      all_goals (go_meet; case rel => exact ⟨by rw [show (0 : Int) = (r : Int) by have := HR.out; omega], rfl⟩)
  case rest =>
    obtain ⟨rfl, rfl⟩ := hcut
    go_upto_region 2 with fail
    go_cut [8, 9] (fun s8 s9 V => ∃ o1 c1 o2 c2 gg zb, s8 = .pointer (some ⟨zb, 0, none⟩) ∧ s9 = .slice (some ⟨gg, 0, none⟩) N N ∧ Ed w V gg N zb xs o1 p c1 (sh.take p) o2 c2 (List.replicate N 0))
    case first =>
      by_cases c1 : r < sn
      · have d1 : ¬ (sn : Int) - (r : Int) < 0 := by omega
        have d2 : 0 < (sn : Int) - (r : Int) := by omega
        have ep : (sn : Int) - (r : Int) = (p : Int) := by have := HR.out; omega
        have d3 : 0 < (p : Int) := by omega
        have hcc := HM.out
        go_wp2_with (first
          | (go_at_call 59; (with_reducible refine hcc.mono ?_); rintro e V1 ⟨o1, c1, o2, c2, gg, rfl, f1, f2, hap, l1, l2, lg, lb, CQ⟩))
        all_goals
          go_meet
          case rel =>
            have kz := box_below V1 (.cells #[.slice o1 p c1, .slice o2 N c2] 36)
            have zb := allocNew V1 (.cells #[.slice o1 p c1, .slice o2 N c2] 36)
            have z0 := lb.size
            rw [hsz] at z0
            exact ⟨o1, c1, o2, c2, gg, V1.heap.size, rfl, rfl, (kk.trans (lb.mono (by omega))).trans (kz.mono (by omega)), (kz.block _ (by omega)).trans ((lb.block _ (by omega)).trans b3), zb, (f1.below kz (Nat.le_refl _)).mono (by omega), (f2.below kz (Nat.le_refl _)).mono (by omega), CQ.below kz⟩
      · have d1 : ¬ 0 < (sn : Int) - (r : Int) := by omega
        have d2 : (sn : Int) - (r : Int) ≤ 0 := by omega
        have hcc := HM.out
        rw [show ((p : Nat) : Int) = 0 by have := HR.out; omega] at hcc
        go_wp2_with (first
          | (go_at_call 59; (with_reducible refine hcc.mono ?_); rintro e V1 ⟨o1, c1, o2, c2, gg, rfl, f1, f2, hap, l1, l2, lg, lb, CQ⟩))
        all_goals
          go_meet
          case rel =>
            have kz := box_below V1 (.cells #[.slice o1 p c1, .slice o2 N c2] 36)
            have zb := allocNew V1 (.cells #[.slice o1 p c1, .slice o2 N c2] 36)
            have z0 := lb.size
            rw [hsz] at z0
            exact ⟨o1, c1, o2, c2, gg, V1.heap.size, rfl, rfl, (kk.trans (lb.mono (by omega))).trans (kz.mono (by omega)), (kz.block _ (by omega)).trans ((lb.block _ (by omega)).trans b3), zb, (f1.below kz (Nat.le_refl _)).mono (by omega), (f2.below kz (Nat.le_refl _)).mono (by omega), CQ.below kz⟩
    case rest =>
      obtain ⟨o1, c1, o2, c2, gg, zb, rfl, rfl, E0⟩ := hcut
      have hN4 := E0.itm.n4
      go_wp2
      go_loopw [30] (fun i V => ∃ (k : Nat) (zs : List Int), k ≤ N ∧ i = .int .i64 (k : Nat) ∧ Ed w V gg N zb xs o1 p c1 (sh.take p) o2 c2 zs ∧ ∀ j, j < k → nth zs j = t (xs j)) (fun i _ => N - (intOf i).toNat)
      case atStart => exact ⟨0, _, Nat.zero_le _, rfl, E0, fun j hj => by omega⟩
      case round =>
        obtain ⟨k, zs, hk, rfl, E, Z⟩ := hrel
        clear E0
        by_cases hlt : k < N
        · have t1 : decide ((k : Int) < (N : Int)) = true := by simp; omega
          have bk : (k : Int) < (N : Int) := by omega
          have wk := wrY (z := (k : Int) + 1) (by omega) (by omega)
          obtain ⟨b2, rfl, hb2, _, _⟩ := E.slot hlt
          obtain ⟨gb, goff, ge, hgl, hgc⟩ := E.itm.as.cells (by omega)
          cases ge
          obtain ⟨so', sn', sc', uo, tn, tc, a1, a2, a3, a4, a5, a6⟩ := hgc k hlt
          rw [Nat.zero_add] at a1 a2
          have ka := box_below wr (.cells #[.slice so' sn' sc', .slice uo tn tc] 36)
          have ba := allocNew wr (.cells #[.slice so' sn' sc', .slice uo tn tc] 36)
          have kd : Below wr.heap.size wr (wr.alloc (.cells #[.slice so' sn' sc', .slice uo tn tc] 36)).drew := ka.drew
          have E1 := E.below kd
          have hcall := HT.out _ E1.bel so' sn' sc' uo tn tc _ _ (a3.below kd (Nat.le_refl _)) (a5.below kd (Nat.le_refl _))
          have htk := HTB.out (xs k)
          rw [show ((xs k).1, (xs k).2) = xs k from rfl] at hcall
          have HZ : Hid (∀ j, j < k → nth zs j = t (xs j)) := Z
          have HX : Hid (∃ u, u = t (xs k)) := ⟨_, rfl⟩
          generalize hu : t (xs k) = u at *
          have HU : Hid (t (xs k) = u) := hu
          have cbx : ∀ U, Below (wr.heap.size + 1) (wr.alloc (.cells #[.slice so' sn' sc', .slice uo tn tc] 36)) U → U.cell? ⟨wr.heap.size, 0, none⟩ = some (.slice so' sn' sc') ∧ U.cell? ⟨wr.heap.size, 1, none⟩ = some (.slice uo tn tc) := fun U hU =>
            ⟨(hU.cell (p := ⟨wr.heap.size, 0, none⟩) (by simp)).trans ((cell_of_row _ _ 0 _ _ (0, 0) ba).trans rfl), (hU.cell (p := ⟨wr.heap.size, 1, none⟩) (by simp)).trans ((cell_of_row _ _ 1 _ _ (0, 0) ba).trans rfl)⟩
          have hrf : Below (wr.heap.size + 1) (wr.alloc (.cells #[.slice so' sn' sc', .slice uo tn tc] 36)) (wr.alloc (.cells #[.slice so' sn' sc', .slice uo tn tc] 36)) := Below.refl _ _
          have SA : _ ∧ _ ∧ _ := ⟨(box2 E1.out).2.1, (cbx _ hrf.drew).1, (cbx _ hrf.drew).2⟩
          clear hu HX hgc Z a3 a4 a5 a6
          go_wp2
          go_region_held3 (fun U => U.cell? ⟨zb, 1, none⟩ = some (.slice (some ⟨b2, 0, none⟩) N c2) ∧ U.cell? ⟨wr.heap.size, 0, none⟩ = some (.slice so' sn' sc') ∧ U.cell? ⟨wr.heap.size, 1, none⟩ = some (.slice uo tn tc)) (first | exact SA | exact S5 | exact S6)
            (first
              | (go_at_call 39; (with_reducible refine hcall.mono ?_); rintro e w5 ⟨rfl, b5⟩; have E5 := E1.below b5; obtain ⟨b2', eb, _, ⟨v5, cv5⟩, fz5⟩ := E5.slot hlt; cases eb; have S5 : _ ∧ _ ∧ _ := ⟨(box2 E5.out).2.1, (cbx _ (hrf.drew.trans (b5.mono (by simp)))).1, (cbx _ (hrf.drew.trans (b5.mono (by simp)))).2⟩; have E6 := E5.set hlt u htk.1 htk.2; have B6 : Below (wr.heap.size + 1) (wr.alloc (.cells #[.slice so' sn' sc', .slice uo tn tc] 36)) w5 := hrf.drew.trans (b5.mono (by simp)); have nb2 : some wr.heap.size ≠ some b2 := (fun e => E5.f2.nebox ((B6.block wr.heap.size (by omega)).trans ba) ty_ne2 b2 0 rfl e.symm); have cb6 := box2 (((set1 w5 b2 k (.int .i64 u)).block wr.heap.size (by have := b5.size; simp at this; omega) nb2).trans ((B6.block wr.heap.size (by omega)).trans ba)); have S6 : _ ∧ _ ∧ _ := ⟨(box2 E6.out).2.1, cb6.1, cb6.2.1⟩))
          go_wp2
          go_roundw
          case rel => exact ⟨k + 1, _, by omega, by go_num, E6, fun j hj => by
            rw [nth_setY (by rw [E.f2.rd.len]; exact hlt)]
            split
            · rename_i e; rw [e, HU.out]
            · exact HZ.out j (by omega)⟩
          case measure => simp [intOf]; omega
        · obtain rfl : k = N := by omega
          have t1 : decide ((k : Int) < (k : Int)) = false := by simp
          have ez : zs = ecL t xs k := ext_nth (by rw [E.f2.rd.len, ecL_len]) (fun j hj => by rw [E.f2.rd.len] at hj; rw [Z j hj, ecL_nth hj])
          subst ez
          obtain ⟨y0, y1, _, _⟩ := box2 E.out
          obtain ⟨r0, r1, r2, r3⟩ := box2 E.res
          clear Z
          go_wp2
          (try simp only [Exit.inBlock, Exit.then])
          refine bodyPost_ret (v := .agg #[.slice o1 p c1, .slice o2 k c2]) (by simp [results, Try.results38]; go_simp) rfl ?_
          have ks := set2 wr (w.heap.size + 1 + 1) 0 1 (.slice o1 p c1) (.slice o2 k c2)
          exact ⟨o1, p, c1, o2, k, c2, rfl, E.f1.keep1 ks (E.f1.nebox E.res ty_ne1), E.f2.keep1 ks (E.f2.nebox E.res ty_ne2), below_set2 _ _ _ _ E.bel (by omega) (Nat.le_refl _)⟩

set_option maxHeartbeats 4000000 in
set_option maxRecDepth 20000 in
theorem eachI (so ao : Option Addr) (sn sc an ac : Nat) (sh at' : List Int) (lo mo : Option Addr) (ln lc mn mc : Nat) (lh : List Int) (fb : Option Addr) (t : List Int × List Int → Int) (w : World) (h : Rd w so sn sh) (hs : Sl so sn sc) (g : Rd w ao an at') (gs : Sl ao an ac) (h0 : mayA sh at' = 0) (hl : Rd w lo ln lh)
    (hln : ln ≤ 8) (htb : ∀ x, -9223372036854775808 ≤ t x ∧ t x ≤ 9223372036854775807)
    (hT : ∀ V, Below w.heap.size w V → ∀ so' sn' sc' ao' an' ac' s a, Rd V so' sn' s → Rd V ao' an' a → Calls Try.prog 41 #[.agg #[.slice so' sn' sc', .slice ao' an' ac'], .pointer fb] V fun e w' => e = .returned (.int .i64 (t (s, a))) ∧ Below V.heap.size V w') :
    Calls Try.prog 38 #[.agg #[.slice so sn sc, .slice ao an ac], .agg #[.slice lo ln lc, .slice mo mn mc], .func (.func 41) #[] #[.pointer fb]] w fun e w' => ∃ o1 n1 c1 o2 n2 c2, e = .returned (.agg #[.slice o1 n1 c1, .slice o2 n2 c2]) ∧ Ft 3 w' w.heap.size o1 n1 c1 (sh.take (frN sn ln)) ∧ Ft 2 w' w.heap.size o2 n2 c2 (ecL t (cux sh at' (frN sn ln)) (cun sh (frN sn ln))) ∧ Below w.heap.size w w' := by
  have hsn8 : sn ≤ 8 := by rw [← h.len]; exact (mayF_zero (mayA_zero h0).1).2.1
  have k1 := box_below w (.cells #[.slice so sn sc, .slice ao an ac] 36)
  have b1 := allocNew w (.cells #[.slice so sn sc, .slice ao an ac] 36)
  have k2 := box_below (w.alloc (.cells #[.slice so sn sc, .slice ao an ac] 36)) (.cells #[.slice lo ln lc, .slice mo mn mc] 36)
  have b2 := allocNew (w.alloc (.cells #[.slice so sn sc, .slice ao an ac] 36)) (.cells #[.slice lo ln lc, .slice mo mn mc] 36)
  have k3 := box_below ((w.alloc (.cells #[.slice so sn sc, .slice ao an ac] 36)).alloc (.cells #[.slice lo ln lc, .slice mo mn mc] 36)) (.cells #[.slice none 0 0, .slice none 0 0] 36)
  have b3 := allocNew ((w.alloc (.cells #[.slice so sn sc, .slice ao an ac] 36)).alloc (.cells #[.slice lo ln lc, .slice mo mn mc] 36)) (.cells #[.slice none 0 0, .slice none 0 0] 36)
  simp only [World.size_alloc] at k2 b2 k3 b3
  have kk := (k1.trans (k2.mono (by omega))).trans (k3.mono (by omega))
  have hbA := (k3.block w.heap.size (by omega)).trans ((k2.block w.heap.size (by omega)).trans b1)
  have hbL := (k3.block (w.heap.size + 1) (by omega)).trans b2
  have hsz : (((w.alloc (.cells #[.slice so sn sc, .slice ao an ac] 36)).alloc (.cells #[.slice lo ln lc, .slice mo mn mc] 36)).alloc (.cells #[.slice none 0 0, .slice none 0 0] 36)).heap.size = w.heap.size + 1 + 1 + 1 := by simp
  obtain ⟨p, hp⟩ : ∃ p : Nat, frN sn ln = p := ⟨_, rfl⟩
  have hple : p ≤ sn := by rw [← hp]; exact frN_le _ _
  rw [hp]
  have hcut := cut_any so ao sn sc an ac sh at' p w _ kk h hs g gs h0 hple
  rw [hsz] at hcut
  obtain ⟨r, hr⟩ : ∃ r : Nat, r = ln - 1 := ⟨_, rfl⟩
  have hpr : p = sn - r := by rw [← hp, hr]; rfl
  generalize hxs : cux sh at' p = xs at *
  generalize hN : cun sh p = N at *
  have HT : Hid (∀ V, Below w.heap.size w V → ∀ so' sn' sc' ao' an' ac' s a, Rd V so' sn' s → Rd V ao' an' a → Calls Try.prog 41 #[.agg #[.slice so' sn' sc', .slice ao' an' ac'], .pointer fb] V fun e w' => e = .returned (.int .i64 (t (s, a))) ∧ Below V.heap.size V w') := hT
  have HR : Hid (r = ln - 1 ∧ p = sn - r) := ⟨hr, hpr⟩
  obtain ⟨x0, x1, _, _⟩ := box2 hbA
  obtain ⟨y0, y1, _, _⟩ := box2 hbL
  have w1 := wrY (z := (ln : Int) - 1) (by omega) (by omega)
  have w2 := wrY (z := (sn : Int) - (r : Int)) (by omega) (by omega)
  have HTB : Hid (∀ x, -9223372036854775808 ≤ t x ∧ t x ≤ 9223372036854775807) := htb
  clear hT htb hp hxs hN k1 k2 k3 b1 b2 h0 hr hpr
  generalize hWW : (((w.alloc (.cells #[.slice so sn sc, .slice ao an ac] 36)).alloc (.cells #[.slice lo ln lc, .slice mo mn mc] 36)).alloc (.cells #[.slice none 0 0, .slice none 0 0] 36)) = W at *
  have HM : Hid (Calls Try.prog 59 #[.agg #[.slice so sn sc, .slice ao an ac], .int .i64 (p : Nat)] W fun e w' => ∃ o1 c1 o2 c2 gg, e = .returned (.tuple #[.agg #[.slice o1 p c1, .slice o2 N c2], .slice (some ⟨gg, 0, none⟩) N N]) ∧ Ft 3 w' (w.heap.size + 1 + 1 + 1) o1 p c1 (sh.take p) ∧ Ft 2 w' (w.heap.size + 1 + 1 + 1) o2 N c2 (List.replicate N 0) ∧ apart o1 o2 ∧ (∀ b off, o1 = some ⟨b, off, none⟩ → b < gg) ∧ (∀ b off, o2 = some ⟨b, off, none⟩ → b < gg) ∧ (w.heap.size + 1 + 1 + 1) ≤ gg ∧ Below (w.heap.size + 1 + 1 + 1) W w' ∧ Cq gg N w w' xs) := hcut
  clear hcut
  subst hWW
  go_enter Try.func38, Try.ntmps38
  go_upto_region 1 with fail
  generalize hWW : (((w.alloc (.cells #[.slice so sn sc, .slice ao an ac] 36)).alloc (.cells #[.slice lo ln lc, .slice mo mn mc] 36)).alloc (.cells #[.slice none 0 0, .slice none 0 0] 36)) = W at *
  clear hWW
  go_cut [7] (fun s7 V => s7 = .int .i64 (r : Nat) ∧ V = W)
  case first =>
    by_cases c1 : 2 ≤ ln
    · have d1 : ¬ (ln : Int) - 1 < 0 := by omega
      have d2 : 0 < (ln : Int) - 1 := by omega
      go_wp2
      all_goals (go_meet; case rel => exact ⟨by rw [show (ln : Int) - 1 = (r : Int) by have := HR.out; omega], rfl⟩)
    · have d1 : ¬ 0 < (ln : Int) - 1 := by omega
      have d2 : (ln : Int) - 1 ≤ 0 := by omega
      go_wp2
      all_goals (go_meet; case rel => exact ⟨by rw [show (0 : Int) = (r : Int) by have := HR.out; omega], rfl⟩)
  case rest =>
    obtain ⟨rfl, rfl⟩ := hcut
    go_upto_region 2 with fail
    go_cut [8, 9] (fun s8 s9 V => ∃ o1 c1 o2 c2 gg zb, s8 = .pointer (some ⟨zb, 0, none⟩) ∧ s9 = .slice (some ⟨gg, 0, none⟩) N N ∧ Ed w V gg N zb xs o1 p c1 (sh.take p) o2 c2 (List.replicate N 0))
    case first =>
      by_cases c1 : r < sn
      · have d1 : ¬ (sn : Int) - (r : Int) < 0 := by omega
        have d2 : 0 < (sn : Int) - (r : Int) := by omega
        have ep : (sn : Int) - (r : Int) = (p : Int) := by have := HR.out; omega
        have d3 : 0 < (p : Int) := by omega
        have hcc := HM.out
        go_wp2_with (first
          | (go_at_call 59; (with_reducible refine hcc.mono ?_); rintro e V1 ⟨o1, c1, o2, c2, gg, rfl, f1, f2, hap, l1, l2, lg, lb, CQ⟩))
        all_goals
          go_meet
          case rel =>
            have kz := box_below V1 (.cells #[.slice o1 p c1, .slice o2 N c2] 36)
            have zb := allocNew V1 (.cells #[.slice o1 p c1, .slice o2 N c2] 36)
            have z0 := lb.size
            rw [hsz] at z0
            exact ⟨o1, c1, o2, c2, gg, V1.heap.size, rfl, rfl, (kk.trans (lb.mono (by omega))).trans (kz.mono (by omega)), (kz.block _ (by omega)).trans ((lb.block _ (by omega)).trans b3), zb, (f1.below kz (Nat.le_refl _)).mono (by omega), (f2.below kz (Nat.le_refl _)).mono (by omega), CQ.below kz⟩
      · have d1 : ¬ 0 < (sn : Int) - (r : Int) := by omega
        have d2 : (sn : Int) - (r : Int) ≤ 0 := by omega
        have hcc := HM.out
        rw [show ((p : Nat) : Int) = 0 by have := HR.out; omega] at hcc
        go_wp2_with (first
          | (go_at_call 59; (with_reducible refine hcc.mono ?_); rintro e V1 ⟨o1, c1, o2, c2, gg, rfl, f1, f2, hap, l1, l2, lg, lb, CQ⟩))
        all_goals
          go_meet
          case rel =>
            have kz := box_below V1 (.cells #[.slice o1 p c1, .slice o2 N c2] 36)
            have zb := allocNew V1 (.cells #[.slice o1 p c1, .slice o2 N c2] 36)
            have z0 := lb.size
            rw [hsz] at z0
            exact ⟨o1, c1, o2, c2, gg, V1.heap.size, rfl, rfl, (kk.trans (lb.mono (by omega))).trans (kz.mono (by omega)), (kz.block _ (by omega)).trans ((lb.block _ (by omega)).trans b3), zb, (f1.below kz (Nat.le_refl _)).mono (by omega), (f2.below kz (Nat.le_refl _)).mono (by omega), CQ.below kz⟩
    case rest =>
      obtain ⟨o1, c1, o2, c2, gg, zb, rfl, rfl, E0⟩ := hcut
      have hN4 := E0.itm.n4
      go_wp2
      go_loopw [30] (fun i V => ∃ (k : Nat) (zs : List Int), k ≤ N ∧ i = .int .i64 (k : Nat) ∧ Ed w V gg N zb xs o1 p c1 (sh.take p) o2 c2 zs ∧ ∀ j, j < k → nth zs j = t (xs j)) (fun i _ => N - (intOf i).toNat)
      case atStart => exact ⟨0, _, Nat.zero_le _, rfl, E0, fun j hj => by omega⟩
      case round =>
        obtain ⟨k, zs, hk, rfl, E, Z⟩ := hrel
        clear E0
        by_cases hlt : k < N
        · have t1 : decide ((k : Int) < (N : Int)) = true := by simp; omega
          have bk : (k : Int) < (N : Int) := by omega
          have wk := wrY (z := (k : Int) + 1) (by omega) (by omega)
          obtain ⟨b2, rfl, hb2, _, _⟩ := E.slot hlt
          obtain ⟨gb, goff, ge, hgl, hgc⟩ := E.itm.as.cells (by omega)
          cases ge
          obtain ⟨so', sn', sc', uo, tn, tc, a1, a2, a3, a4, a5, a6⟩ := hgc k hlt
          rw [Nat.zero_add] at a1 a2
          have ka := box_below wr (.cells #[.slice so' sn' sc', .slice uo tn tc] 36)
          have ba := allocNew wr (.cells #[.slice so' sn' sc', .slice uo tn tc] 36)
          have kd : Below wr.heap.size wr (wr.alloc (.cells #[.slice so' sn' sc', .slice uo tn tc] 36)).drew := ka.drew
          have E1 := E.below kd
          have hcall := HT.out _ E1.bel so' sn' sc' uo tn tc _ _ (a3.below kd (Nat.le_refl _)) (a5.below kd (Nat.le_refl _))
          have htk := HTB.out (xs k)
          rw [show ((xs k).1, (xs k).2) = xs k from rfl] at hcall
          have HZ : Hid (∀ j, j < k → nth zs j = t (xs j)) := Z
          have HX : Hid (∃ u, u = t (xs k)) := ⟨_, rfl⟩
          generalize hu : t (xs k) = u at *
          have HU : Hid (t (xs k) = u) := hu
          have cbx : ∀ U, Below (wr.heap.size + 1) (wr.alloc (.cells #[.slice so' sn' sc', .slice uo tn tc] 36)) U → U.cell? ⟨wr.heap.size, 0, none⟩ = some (.slice so' sn' sc') ∧ U.cell? ⟨wr.heap.size, 1, none⟩ = some (.slice uo tn tc) := fun U hU =>
            ⟨(hU.cell (p := ⟨wr.heap.size, 0, none⟩) (by simp)).trans ((cell_of_row _ _ 0 _ _ (0, 0) ba).trans rfl), (hU.cell (p := ⟨wr.heap.size, 1, none⟩) (by simp)).trans ((cell_of_row _ _ 1 _ _ (0, 0) ba).trans rfl)⟩
          have hrf : Below (wr.heap.size + 1) (wr.alloc (.cells #[.slice so' sn' sc', .slice uo tn tc] 36)) (wr.alloc (.cells #[.slice so' sn' sc', .slice uo tn tc] 36)) := Below.refl _ _
          have SA : _ ∧ _ ∧ _ := ⟨(box2 E1.out).2.1, (cbx _ hrf.drew).1, (cbx _ hrf.drew).2⟩
          clear hu HX hgc Z a3 a4 a5 a6
          go_wp2
          go_region_held3 (fun U => U.cell? ⟨zb, 1, none⟩ = some (.slice (some ⟨b2, 0, none⟩) N c2) ∧ U.cell? ⟨wr.heap.size, 0, none⟩ = some (.slice so' sn' sc') ∧ U.cell? ⟨wr.heap.size, 1, none⟩ = some (.slice uo tn tc)) (first | exact SA | exact S5 | exact S6)
            (first
              | (go_at_call 41; (with_reducible refine hcall.mono ?_); rintro e w5 ⟨rfl, b5⟩; have E5 := E1.below b5; obtain ⟨b2', eb, _, ⟨v5, cv5⟩, fz5⟩ := E5.slot hlt; cases eb; have S5 : _ ∧ _ ∧ _ := ⟨(box2 E5.out).2.1, (cbx _ (hrf.drew.trans (b5.mono (by simp)))).1, (cbx _ (hrf.drew.trans (b5.mono (by simp)))).2⟩; have E6 := E5.set hlt u htk.1 htk.2; have B6 : Below (wr.heap.size + 1) (wr.alloc (.cells #[.slice so' sn' sc', .slice uo tn tc] 36)) w5 := hrf.drew.trans (b5.mono (by simp)); have nb2 : some wr.heap.size ≠ some b2 := (fun e => E5.f2.nebox ((B6.block wr.heap.size (by omega)).trans ba) ty_ne2 b2 0 rfl e.symm); have cb6 := box2 (((set1 w5 b2 k (.int .i64 u)).block wr.heap.size (by have := b5.size; simp at this; omega) nb2).trans ((B6.block wr.heap.size (by omega)).trans ba)); have S6 : _ ∧ _ ∧ _ := ⟨(box2 E6.out).2.1, cb6.1, cb6.2.1⟩))
          go_wp2
          go_roundw
          case rel => exact ⟨k + 1, _, by omega, by go_num, E6, fun j hj => by
            rw [nth_setY (by rw [E.f2.rd.len]; exact hlt)]
            split
            · rename_i e; rw [e, HU.out]
            · exact HZ.out j (by omega)⟩
          case measure => simp [intOf]; omega
        · obtain rfl : k = N := by omega
          have t1 : decide ((k : Int) < (k : Int)) = false := by simp
          have ez : zs = ecL t xs k := ext_nth (by rw [E.f2.rd.len, ecL_len]) (fun j hj => by rw [E.f2.rd.len] at hj; rw [Z j hj, ecL_nth hj])
          subst ez
          obtain ⟨y0, y1, _, _⟩ := box2 E.out
          obtain ⟨r0, r1, r2, r3⟩ := box2 E.res
          clear Z
          go_wp2
          (try simp only [Exit.inBlock, Exit.then])
          refine bodyPost_ret (v := .agg #[.slice o1 p c1, .slice o2 k c2]) (by simp [results, Try.results38]; go_simp) rfl ?_
          have ks := set2 wr (w.heap.size + 1 + 1) 0 1 (.slice o1 p c1) (.slice o2 k c2)
          exact ⟨o1, p, c1, o2, k, c2, rfl, E.f1.keep1 ks (E.f1.nebox E.res ty_ne1), E.f2.keep1 ks (E.f2.nebox E.res ty_ne2), below_set2 _ _ _ _ E.bel (by omega) (Nat.le_refl _)⟩
end Go.Proofs.Ytlajainnpnbcaaa

namespace Go.Proofs.Ytlajainnpnbcaaa

open Go.RowKit

set_option linter.unusedVariables false

/-- One array in its box, and a box for the answer. -/
structure UnQ (w W : World) (so : Option Addr) (sn sc : Nat) (ao : Option Addr) (an ac : Nat) : Prop where
  x : W.heap[w.heap.size]? = some (.cells #[.slice so sn sc, .slice ao an ac] 36 (0, 0))
  r : W.heap[w.heap.size + 1]? = some (.cells #[.slice none 0 0, .slice none 0 0] 36 (0, 0))
  bel : Below w.heap.size w W
theorem UnQ.sz {w W : World} {so : Option Addr} {sn sc : Nat} {ao : Option Addr} {an ac : Nat} (h : UnQ w W so sn sc ao an ac) : w.heap.size + 2 ≤ W.heap.size := by
  have := (Array.getElem?_eq_some_iff.1 h.r).1
  omega
theorem UnQ.below {w W W' : World} {so : Option Addr} {sn sc : Nat} {ao : Option Addr} {an ac B : Nat} (h : UnQ w W so sn sc ao an ac) (k : Below B W W') (hB : w.heap.size + 2 ≤ B) : UnQ w W' so sn sc ao an ac :=
  ⟨(k.block _ (by omega)).trans h.x, (k.block _ (by omega)).trans h.r, h.bel.trans (k.mono (by omega))⟩
theorem un_startQ (w : World) (so : Option Addr) (sn sc : Nat) (ao : Option Addr) (an ac : Nat) :
    UnQ w ((w.alloc (.cells #[.slice so sn sc, .slice ao an ac] 36)).alloc (.cells #[.slice none 0 0, .slice none 0 0] 36)) so sn sc ao an ac := by
  have k1 := box_below w (.cells #[.slice so sn sc, .slice ao an ac] 36)
  have b1 := allocNew w (.cells #[.slice so sn sc, .slice ao an ac] 36)
  have k2 := box_below (w.alloc (.cells #[.slice so sn sc, .slice ao an ac] 36)) (.cells #[.slice none 0 0, .slice none 0 0] 36)
  have b2 := allocNew (w.alloc (.cells #[.slice so sn sc, .slice ao an ac] 36)) (.cells #[.slice none 0 0, .slice none 0 0] 36)
  simp only [World.size_alloc] at k2 b2
  exact ⟨(k2.block _ (by omega)).trans b1, b2, k1.trans (k2.mono (by omega))⟩
/-- Two arrays in their boxes, and a box for the answer. -/
structure DuQ (w W : World) (so : Option Addr) (sn sc : Nat) (ao : Option Addr) (an ac : Nat) (uo : Option Addr) (un uc : Nat) (bo : Option Addr) (bn bc : Nat) : Prop where
  x : W.heap[w.heap.size]? = some (.cells #[.slice so sn sc, .slice ao an ac] 36 (0, 0))
  y : W.heap[w.heap.size + 1]? = some (.cells #[.slice uo un uc, .slice bo bn bc] 36 (0, 0))
  r : W.heap[w.heap.size + 1 + 1]? = some (.cells #[.slice none 0 0, .slice none 0 0] 36 (0, 0))
  bel : Below w.heap.size w W
theorem DuQ.sz {w W : World} {so : Option Addr} {sn sc : Nat} {ao : Option Addr} {an ac : Nat} {uo : Option Addr} {un uc : Nat} {bo : Option Addr} {bn bc : Nat} (h : DuQ w W so sn sc ao an ac uo un uc bo bn bc) : w.heap.size + 3 ≤ W.heap.size := by
  have := (Array.getElem?_eq_some_iff.1 h.r).1
  omega
theorem DuQ.below {w W W' : World} {so : Option Addr} {sn sc : Nat} {ao : Option Addr} {an ac : Nat} {uo : Option Addr} {un uc : Nat} {bo : Option Addr} {bn bc B : Nat} (h : DuQ w W so sn sc ao an ac uo un uc bo bn bc) (k : Below B W W') (hB : w.heap.size + 3 ≤ B) : DuQ w W' so sn sc ao an ac uo un uc bo bn bc :=
  ⟨(k.block _ (by omega)).trans h.x, (k.block _ (by omega)).trans h.y, (k.block _ (by omega)).trans h.r, h.bel.trans (k.mono (by omega))⟩
theorem du_startQ (w : World) (so : Option Addr) (sn sc : Nat) (ao : Option Addr) (an ac : Nat) (uo : Option Addr) (un uc : Nat) (bo : Option Addr) (bn bc : Nat) :
    DuQ w (((w.alloc (.cells #[.slice so sn sc, .slice ao an ac] 36)).alloc (.cells #[.slice uo un uc, .slice bo bn bc] 36)).alloc (.cells #[.slice none 0 0, .slice none 0 0] 36)) so sn sc ao an ac uo un uc bo bn bc := by
  have k1 := box_below w (.cells #[.slice so sn sc, .slice ao an ac] 36)
  have b1 := allocNew w (.cells #[.slice so sn sc, .slice ao an ac] 36)
  have k2 := box_below (w.alloc (.cells #[.slice so sn sc, .slice ao an ac] 36)) (.cells #[.slice uo un uc, .slice bo bn bc] 36)
  have b2 := allocNew (w.alloc (.cells #[.slice so sn sc, .slice ao an ac] 36)) (.cells #[.slice uo un uc, .slice bo bn bc] 36)
  have k3 := box_below ((w.alloc (.cells #[.slice so sn sc, .slice ao an ac] 36)).alloc (.cells #[.slice uo un uc, .slice bo bn bc] 36)) (.cells #[.slice none 0 0, .slice none 0 0] 36)
  have b3 := allocNew ((w.alloc (.cells #[.slice so sn sc, .slice ao an ac] 36)).alloc (.cells #[.slice uo un uc, .slice bo bn bc] 36)) (.cells #[.slice none 0 0, .slice none 0 0] 36)
  simp only [World.size_alloc] at k2 b2 k3 b3
  exact ⟨(k3.block _ (by omega)).trans ((k2.block _ (by omega)).trans b1), (k3.block _ (by omega)).trans b2, b3, (k1.trans (k2.mono (by omega))).trans (k3.mono (by omega))⟩
/-- A result's box is written: what else there is, and the new rows. -/
theorem ft_setQ {e : TypeId} {V : World} {B b : Nat} {o : Option Addr} {n c : Nat} {zs : List Int} (h : Ft e V B o n c zs) (hb : b < B) (u v : Value) : Ft e ((V.setCell ⟨b, 0, none⟩ u).setCell ⟨b, 1, none⟩ v) B o n c zs := by
  have a := h.at
  exact h.keep1 (set2 V b 0 1 u v) (fun b' off e e' => by have := (a b' off e).1; injection e' with e'; omega)

set_option maxHeartbeats 1000000 in
theorem gradeUp_any (so ao : Option Addr) (sn sc an ac : Nat) (sh at' : List Int) (w : World) (h : Rd w so sn sh) (hs : Sl so sn sc) (g : Rd w ao an at') (gs : Sl ao an ac) (h0 : mayA sh at' = 0) :
    Calls Try.prog 30 #[.agg #[.slice so sn sc, .slice ao an ac]] w fun e w' => ∃ o1 n1 c1 o2 n2 c2 ps, e = .returned (.tuple #[.agg #[.slice o1 n1 c1, .slice o2 n2 c2], .int .i64 0]) ∧ Ft 3 w' w.heap.size o1 n1 c1 [(itN sh : Int)] ∧ Ft 2 w' w.heap.size o2 n2 c2 ps ∧ Pls (cUp (itX sh at')) (itN sh) ps ∧ Below w.heap.size w w' := by
  have U0 := un_startQ w so sn sc ao an ac
  have hit := itemsOf_any so ao sn sc an ac sh at' w _ U0.bel h hs g gs h0
  obtain ⟨q0, q1, _, _⟩ := box2 U0.x
  generalize itN sh = n at *
  generalize itX sh at' = xs at *
  go_enter Try.func30, Try.ntmps30
  go_wp2_with (first
    | (go_at_call 50; (with_reducible refine hit.mono ?_); rintro e w1 ⟨gg, rfl, lg, lb, C1⟩)
    | (go_at_call 49; (with_reducible refine (rising_any _ _ _ _ w1 C1.as C1.n4).mono ?_); rintro e w2 ⟨g2, ps, rfl, f2, p2, h2⟩)
    | (go_at_call 48; (with_reducible refine (numbers_any _ _ _ _ w2 f2.rd C1.n4).mono ?_); rintro e w3 ⟨o1, c1, o2, c2, rfl, F1, F2, h3⟩; have s1 := U0.sz; have s2 := lb.size; have s3 := h2.size; have s4 := h3.size; have U3 := ((U0.below lb U0.sz).below h2 (by omega)).below h3 (by omega); obtain ⟨r0, r1, r2, r3⟩ := box2 U3.r))
  (try simp only [Exit.inBlock, Exit.then])
  refine bodyPost_ret (v := .tuple #[.agg #[.slice o1 1 c1, .slice o2 n c2], .int .i64 0]) (by rw [results_cell_tmp rfl]; go_simp) rfl ?_
  exact ⟨o1, 1, c1, o2, n, c2, ps, rfl, (ft_setQ F1 (by omega) _ _).mono (by omega), (ft_setQ F2 (by omega) _ _).mono (by omega), p2, below_set2 _ _ _ _ U3.bel (by omega) (Nat.le_refl _)⟩

set_option maxHeartbeats 1000000 in
theorem gradeDown_any (so ao : Option Addr) (sn sc an ac : Nat) (sh at' : List Int) (w : World) (h : Rd w so sn sh) (hs : Sl so sn sc) (g : Rd w ao an at') (gs : Sl ao an ac) (h0 : mayA sh at' = 0) :
    Calls Try.prog 32 #[.agg #[.slice so sn sc, .slice ao an ac]] w fun e w' => ∃ o1 n1 c1 o2 n2 c2 ps, e = .returned (.tuple #[.agg #[.slice o1 n1 c1, .slice o2 n2 c2], .int .i64 0]) ∧ Ft 3 w' w.heap.size o1 n1 c1 [(itN sh : Int)] ∧ Ft 2 w' w.heap.size o2 n2 c2 ps ∧ Pls (cDn (itX sh at')) (itN sh) ps ∧ Below w.heap.size w w' := by
  have U0 := un_startQ w so sn sc ao an ac
  have hit := itemsOf_any so ao sn sc an ac sh at' w _ U0.bel h hs g gs h0
  obtain ⟨q0, q1, _, _⟩ := box2 U0.x
  generalize itN sh = n at *
  generalize itX sh at' = xs at *
  go_enter Try.func32, Try.ntmps32
  go_wp2_with (first
    | (go_at_call 50; (with_reducible refine hit.mono ?_); rintro e w1 ⟨gg, rfl, lg, lb, C1⟩)
    | (go_at_call 52; (with_reducible refine (falling_any _ _ _ _ w1 C1.as C1.n4).mono ?_); rintro e w2 ⟨g2, ps, rfl, f2, p2, h2⟩)
    | (go_at_call 48; (with_reducible refine (numbers_any _ _ _ _ w2 f2.rd C1.n4).mono ?_); rintro e w3 ⟨o1, c1, o2, c2, rfl, F1, F2, h3⟩; have s1 := U0.sz; have s2 := lb.size; have s3 := h2.size; have s4 := h3.size; have U3 := ((U0.below lb U0.sz).below h2 (by omega)).below h3 (by omega); obtain ⟨r0, r1, r2, r3⟩ := box2 U3.r))
  (try simp only [Exit.inBlock, Exit.then])
  refine bodyPost_ret (v := .tuple #[.agg #[.slice o1 1 c1, .slice o2 n c2], .int .i64 0]) (by rw [results_cell_tmp rfl]; go_simp) rfl ?_
  exact ⟨o1, 1, c1, o2, n, c2, ps, rfl, (ft_setQ F1 (by omega) _ _).mono (by omega), (ft_setQ F2 (by omega) _ _).mono (by omega), p2, below_set2 _ _ _ _ U3.bel (by omega) (Nat.le_refl _)⟩

set_option maxHeartbeats 2000000 in
theorem placeIn_any (so ao uo bo : Option Addr) (sn sc an ac un uc bn bc : Nat) (sh at' th bt' : List Int) (w : World) (h : Rd w so sn sh) (hs : Sl so sn sc) (g : Rd w ao an at') (gs : Sl ao an ac) (h0 : mayA sh at' = 0) (h2 : Rd w uo un th) (hs2 : Sl uo un uc) (g2 : Rd w bo bn bt') (gs2 : Sl bo bn bc) (h02 : mayA th bt' = 0) :
    Calls Try.prog 25 #[.agg #[.slice so sn sc, .slice ao an ac], .agg #[.slice uo un uc, .slice bo bn bc]] w fun e w' => ∃ o1 n1 c1 o2 n2 c2, e = .returned (.tuple #[.agg #[.slice o1 n1 c1, .slice o2 n2 c2], .int .i64 0]) ∧ Ft 3 w' w.heap.size o1 n1 c1 (th.take (frN un sn)) ∧ Ft 2 w' w.heap.size o2 n2 c2 (ecL (tP (itX sh at') (itN sh)) (cux th bt' (frN un sn)) (cun th (frN un sn))) ∧ Below w.heap.size w w' := by
  have D0 := du_startQ w so sn sc ao an ac uo un uc bo bn bc
  have hln : sn ≤ 8 := by rw [← h.len]; exact (mayF_zero (mayA_zero h0).1).2.1
  have hfi := finderOf_any so ao sn sc an ac sh at' _ (h.below D0.bel (Nat.le_refl _)) hs (g.below D0.bel (Nat.le_refl _)) gs h0
  obtain ⟨q0, q1, _, _⟩ := box2 D0.x
  obtain ⟨y0, y1, _, _⟩ := box2 D0.y
  generalize itN sh = n at *
  generalize itX sh at' = xs at *
  generalize hWW : (((w.alloc (.cells #[.slice so sn sc, .slice ao an ac] 36)).alloc (.cells #[.slice uo un uc, .slice bo bn bc] 36)).alloc (.cells #[.slice none 0 0, .slice none 0 0] 36)) = W at *
  have key : ∀ io po pc w1, Fnd w1 io n n po pc xs → Below W.heap.size W w1 → Calls Try.prog 38 #[.agg #[.slice uo un uc, .slice bo bn bc], .agg #[.slice so sn sc, .slice ao an ac], .func (.func 39) #[] #[.pointer (some ⟨w1.heap.size, 0, none⟩)]] (w1.alloc (.cells #[.slice io n n, .slice po n pc] 66)) fun e w' => ∃ o1 n1 c1 o2 n2 c2, e = .returned (.agg #[.slice o1 n1 c1, .slice o2 n2 c2]) ∧ Ft 3 w' (w1.heap.size + 1) o1 n1 c1 (th.take (frN un sn)) ∧ Ft 2 w' (w1.heap.size + 1) o2 n2 c2 (ecL (tP xs n) (cux th bt' (frN un sn)) (cun th (frN un sn))) ∧ Below (w1.heap.size + 1) (w1.alloc (.cells #[.slice io n n, .slice po n pc] 66)) w' := fun io po pc w1 Fn lb => by
    have kz := box_below w1 (.cells #[.slice io n n, .slice po n pc] 66)
    have bz := allocNew w1 (.cells #[.slice io n n, .slice po n pc] 66)
    have kw : Below w.heap.size w (w1.alloc (.cells #[.slice io n n, .slice po n pc] 66)) := (D0.bel.trans (lb.mono D0.bel.size)).trans (kz.mono (by have := lb.size; have := D0.bel.size; omega))
    have := eachP uo bo un uc bn bc th bt' so ao sn sc an ac sh (some ⟨w1.heap.size, 0, none⟩) (tP xs n) _ (h2.below kw (Nat.le_refl _)) hs2 (g2.below kw (Nat.le_refl _)) gs2 h02 (h.below kw (Nat.le_refl _)) hln (fun x => by
      have := fsq_le xs n x
      have := Fn.n4
      unfold tP
      omega) (fun V hV so' sn' sc' ao' an' ac' s a r1 r2 => place1_any io n n po pc xs so' ao' sn' sc' an' ac' s a w1.heap.size V ((hV.block _ (by simp)).trans bz) ((Fn.below kz (Nat.le_refl _)).below hV (Nat.le_refl _)) r1 r2)
    rw [World.size_alloc] at this
    exact this
  subst hWW
  go_enter Try.func25, Try.ntmps25
  go_wp2_with (first
    | (go_at_call 37; (with_reducible refine hfi.mono ?_); rintro e w1 ⟨io, po, pc, rfl, Fn, lb⟩; have D1 := (D0.below lb D0.sz).below (box_below w1 (.cells #[.slice io n n, .slice po n pc] 66)) (by have := lb.size; have := D0.sz; omega); obtain ⟨z0, z1, _, _⟩ := box2 D1.x; obtain ⟨v0, v1, _, _⟩ := box2 D1.y)
    | (go_at_call 38; (with_reducible refine (key io po pc w1 Fn lb).mono ?_); rintro e w2 ⟨o1, n1, c1, o2, n2, c2, rfl, F1, F2, b2⟩; have s0 := lb.size; have s1 := D0.sz; have D2 := D1.below b2 (by omega); obtain ⟨r0, r1, r2, r3⟩ := box2 D2.r))
  (try simp only [Exit.inBlock, Exit.then])
  refine bodyPost_ret (v := .tuple #[.agg #[.slice o1 n1 c1, .slice o2 n2 c2], .int .i64 0]) (by rw [results_cell_tmp rfl]; go_simp) rfl ?_
  exact ⟨o1, n1, c1, o2, n2, c2, rfl, (ft_setQ F1 (by omega) _ _).mono (by omega), (ft_setQ F2 (by omega) _ _).mono (by omega), below_set2 _ _ _ _ D2.bel (by omega) (Nat.le_refl _)⟩

set_option maxHeartbeats 2000000 in
theorem isIn_any (so ao uo bo : Option Addr) (sn sc an ac un uc bn bc : Nat) (sh at' th bt' : List Int) (w : World) (h : Rd w so sn sh) (hs : Sl so sn sc) (g : Rd w ao an at') (gs : Sl ao an ac) (h0 : mayA sh at' = 0) (h2 : Rd w uo un th) (hs2 : Sl uo un uc) (g2 : Rd w bo bn bt') (gs2 : Sl bo bn bc) (h02 : mayA th bt' = 0) :
    Calls Try.prog 26 #[.agg #[.slice so sn sc, .slice ao an ac], .agg #[.slice uo un uc, .slice bo bn bc]] w fun e w' => ∃ o1 n1 c1 o2 n2 c2, e = .returned (.tuple #[.agg #[.slice o1 n1 c1, .slice o2 n2 c2], .int .i64 0]) ∧ Ft 3 w' w.heap.size o1 n1 c1 (sh.take (frN sn un)) ∧ Ft 2 w' w.heap.size o2 n2 c2 (ecL (tI (itX th bt') (itN th)) (cux sh at' (frN sn un)) (cun sh (frN sn un))) ∧ Below w.heap.size w w' := by
  have D0 := du_startQ w so sn sc ao an ac uo un uc bo bn bc
  have hln : un ≤ 8 := by rw [← h2.len]; exact (mayF_zero (mayA_zero h02).1).2.1
  have hfi := finderOf_any uo bo un uc bn bc th bt' _ (h2.below D0.bel (Nat.le_refl _)) hs2 (g2.below D0.bel (Nat.le_refl _)) gs2 h02
  obtain ⟨q0, q1, _, _⟩ := box2 D0.x
  obtain ⟨y0, y1, _, _⟩ := box2 D0.y
  generalize itN th = n at *
  generalize itX th bt' = xs at *
  generalize hWW : (((w.alloc (.cells #[.slice so sn sc, .slice ao an ac] 36)).alloc (.cells #[.slice uo un uc, .slice bo bn bc] 36)).alloc (.cells #[.slice none 0 0, .slice none 0 0] 36)) = W at *
  have key : ∀ io po pc w1, Fnd w1 io n n po pc xs → Below W.heap.size W w1 → Calls Try.prog 38 #[.agg #[.slice so sn sc, .slice ao an ac], .agg #[.slice uo un uc, .slice bo bn bc], .func (.func 41) #[] #[.pointer (some ⟨w1.heap.size, 0, none⟩)]] (w1.alloc (.cells #[.slice io n n, .slice po n pc] 66)) fun e w' => ∃ o1 n1 c1 o2 n2 c2, e = .returned (.agg #[.slice o1 n1 c1, .slice o2 n2 c2]) ∧ Ft 3 w' (w1.heap.size + 1) o1 n1 c1 (sh.take (frN sn un)) ∧ Ft 2 w' (w1.heap.size + 1) o2 n2 c2 (ecL (tI xs n) (cux sh at' (frN sn un)) (cun sh (frN sn un))) ∧ Below (w1.heap.size + 1) (w1.alloc (.cells #[.slice io n n, .slice po n pc] 66)) w' := fun io po pc w1 Fn lb => by
    have kz := box_below w1 (.cells #[.slice io n n, .slice po n pc] 66)
    have bz := allocNew w1 (.cells #[.slice io n n, .slice po n pc] 66)
    have kw : Below w.heap.size w (w1.alloc (.cells #[.slice io n n, .slice po n pc] 66)) := (D0.bel.trans (lb.mono D0.bel.size)).trans (kz.mono (by have := lb.size; have := D0.bel.size; omega))
    have := eachI so ao sn sc an ac sh at' uo bo un uc bn bc th (some ⟨w1.heap.size, 0, none⟩) (tI xs n) _ (h.below kw (Nat.le_refl _)) hs (g.below kw (Nat.le_refl _)) gs h0 (h2.below kw (Nat.le_refl _)) hln (fun x => by
      have := fsq_le xs n x
      have := Fn.n4
      unfold tI
      split <;> omega) (fun V hV so' sn' sc' ao' an' ac' s a r1 r2 => isIn1_any io n n po pc xs so' ao' sn' sc' an' ac' s a w1.heap.size V ((hV.block _ (by simp)).trans bz) ((Fn.below kz (Nat.le_refl _)).below hV (Nat.le_refl _)) r1 r2)
    rw [World.size_alloc] at this
    exact this
  subst hWW
  go_enter Try.func26, Try.ntmps26
  go_wp2_with (first
    | (go_at_call 37; (with_reducible refine hfi.mono ?_); rintro e w1 ⟨io, po, pc, rfl, Fn, lb⟩; have D1 := (D0.below lb D0.sz).below (box_below w1 (.cells #[.slice io n n, .slice po n pc] 66)) (by have := lb.size; have := D0.sz; omega); obtain ⟨z0, z1, _, _⟩ := box2 D1.x; obtain ⟨v0, v1, _, _⟩ := box2 D1.y)
    | (go_at_call 38; (with_reducible refine (key io po pc w1 Fn lb).mono ?_); rintro e w2 ⟨o1, n1, c1, o2, n2, c2, rfl, F1, F2, b2⟩; have s0 := lb.size; have s1 := D0.sz; have D2 := D1.below b2 (by omega); obtain ⟨r0, r1, r2, r3⟩ := box2 D2.r))
  (try simp only [Exit.inBlock, Exit.then])
  refine bodyPost_ret (v := .tuple #[.agg #[.slice o1 n1 c1, .slice o2 n2 c2], .int .i64 0]) (by rw [results_cell_tmp rfl]; go_simp) rfl ?_
  exact ⟨o1, n1, c1, o2, n2, c2, rfl, (ft_setQ F1 (by omega) _ _).mono (by omega), (ft_setQ F2 (by omega) _ _).mono (by omega), below_set2 _ _ _ _ D2.bel (by omega) (Nat.le_refl _)⟩

/-- What PNub tells: the places of those that are met first. -/
def nbP (sh at' : List Int) : List Int := nwo (fsL (itX sh at') (itN sh)) (itN sh)
theorem nbP_in (sh at' : List Int) : inN (itN sh) (nbP sh at') := fun k hk => nwo_mem (nth_mem hk)
theorem nbP_len (sh at' : List Int) : (nbP sh at').length ≤ itN sh := nwo_len _ _

set_option maxHeartbeats 2000000 in
theorem nub_any (so ao : Option Addr) (sn sc an ac : Nat) (sh at' : List Int) (w : World) (h : Rd w so sn sh) (hs : Sl so sn sc) (g : Rd w ao an at') (gs : Sl ao an ac) (h0 : mayA sh at' = 0) :
    Calls Try.prog 27 #[.agg #[.slice so sn sc, .slice ao an ac]] w fun e w' => ∃ o1 n1 c1 o2 n2 c2, e = .returned (.tuple #[.agg #[.slice o1 n1 c1, .slice o2 n2 c2], .int .i64 0]) ∧ Ft 3 w' w.heap.size o1 n1 c1 (((nbP sh at').length : Int) :: sh.drop 1) ∧ Ft 2 w' w.heap.size o2 n2 c2 (chA (itX sh at') (nbP sh at') (nbP sh at').length) ∧ Below w.heap.size w w' := by
  have U0 := un_startQ w so sn sc ao an ac
  have U1 : UnQ w ((w.alloc (.cells #[.slice so sn sc, .slice ao an ac] 36)).alloc (.cells #[.slice none 0 0, .slice none 0 0] 36)).drew so sn sc ao an ac := U0.below (B := w.heap.size + 2) (Below.refl _ _).drew (Nat.le_refl _)
  have hfi := finderOf_any so ao sn sc an ac sh at' _ (h.below U1.bel (Nat.le_refl _)) hs (g.below U1.bel (Nat.le_refl _)) gs h0
  have hch := fun V (hV : UnQ w V so sn sc ao an ac) po m pc (hp : Rd V po m (nbP sh at')) (hm : m ≤ 4096) => chosen_any so ao sn sc an ac sh at' po m pc (nbP sh at') V (h.below hV.bel (Nat.le_refl _)) hs (g.below hV.bel (Nat.le_refl _)) gs h0 hp hm (nbP_in sh at')
  have hle := nbP_len sh at'
  have HNB : Hid (nbP sh at' = nwo (fsL (itX sh at') (itN sh)) (itN sh)) := rfl
  generalize nbP sh at' = nb at *
  generalize itN sh = n at *
  generalize itX sh at' = xs at *
  have al : ∀ V, UnQ w V so sn sc ao an ac → V.cell? ⟨w.heap.size, 0, none⟩ = some (.slice so sn sc) ∧ V.cell? ⟨w.heap.size, 1, none⟩ = some (.slice ao an ac) := fun V hV => ⟨(box2 hV.x).1, (box2 hV.x).2.1⟩
  go_enter Try.func27, Try.ntmps27
  go_wp2
  go_region_held3 (fun V => V.cell? ⟨w.heap.size, 0, none⟩ = some (.slice so sn sc) ∧ V.cell? ⟨w.heap.size, 1, none⟩ = some (.slice ao an ac)) (first | exact al _ U1 | exact al _ U2 | exact al _ U3 | exact al _ U4 | exact al _ U5 | exact S6)
    (first
      | (go_at_call 37; (with_reducible refine hfi.mono ?_); rintro e w1 ⟨io, po, pc, rfl, Fn, lb⟩; have U2 := U1.below lb U1.sz)
      | (go_at_call 46; (with_reducible refine (firsts_any _ _ _ _ _ _ w1 Fn).mono ?_); rintro e w2 ⟨g2, rfl, f2, b2⟩; have U3 := U2.below b2 U2.sz)
      | (go_at_call 45; (with_reducible refine (newOnes_any _ _ _ _ w2 f2.rd Fn.n4).mono ?_); rintro e w3 ⟨o3, m3, c3, rfl, f3, b3⟩; have U4 := U3.below b3 U3.sz; rw [← HNB.out] at f3; have l3 := f3.rd.len)
      | (go_at_call 44; (with_reducible refine (hch w3 U4 _ _ _ f3.rd (by have := Fn.n4; omega)).mono ?_); rintro e w4 ⟨o1, n1, c1, o2, n2, c2, rfl, F1, F2, b4⟩; have U5 := U4.below b4 U4.sz; have s4 := U4.sz; obtain ⟨r0, r1, r2, r3⟩ := box2 U5.r; have kk := set2 w4 (w.heap.size + 1) 0 1 (.slice o1 n1 c1) (.slice o2 n2 c2); have xx := box2 ((kk.block w.heap.size (by have := U5.sz; omega) (fun e => by injection e with e; omega)).trans U5.x); have S6 : _ ∧ _ := ⟨xx.1, xx.2.1⟩))
  go_wp2
  (try simp only [Exit.inBlock, Exit.then])
  refine bodyPost_ret (v := .tuple #[.agg #[.slice o1 n1 c1, .slice o2 n2 c2], .int .i64 0]) (by rw [results_cell_tmp rfl]; go_simp) rfl ?_
  rw [← l3] at F1 F2
  exact ⟨o1, n1, c1, o2, n2, c2, rfl, (ft_setQ F1 (by omega) _ _).mono (by omega), (ft_setQ F2 (by omega) _ _).mono (by omega), below_set2 _ _ _ _ U5.bel (by omega) (Nat.le_refl _)⟩
end Go.Proofs.Ytlajainnpnbcaaa
