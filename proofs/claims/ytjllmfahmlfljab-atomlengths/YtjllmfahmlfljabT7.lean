
/- The statement AtomLengths, walked: two arrays that may be. -/

import Derived.Test.YtjllmfahmlfljabT6

namespace Go.Proofs.Ytjllmfahmlfljab

open Go.RowKit Go.Deep

set_option linter.unusedVariables false

set_option maxHeartbeats 20000000 in
set_option maxRecDepth 20000 in
theorem len_go (op : Int) (so ao to bo : Option Addr) (sn sc an ac tn tc bn bc : Nat) (sx ax sy ay : List Int) (w : World) (h1 : Rd w so sn sx) (h2 : Rd w ao an ax) (h3 : Rd w to tn sy) (h4 : Rd w bo bn ay) (hs : Sl so sn sc) (ht : Sl to tn tc) (c : hasB op 2 = true) (m0 : mayA sx ax = 0) (m1 : mayA sy ay = 0) :
    Calls Try.prog 3 #[.int .i64 op, .agg #[.slice so sn sc, .slice ao an ac], .agg #[.slice to tn tc, .slice bo bn bc]] w fun e w' => e = .returned (.bool true) ∧ Below w.heap.size w w' := by
  have I0 := lg_start w so sn sc ao an ac to tn tc bo bn bc sx ax sy ay h1 h2 h3 h4
  have hh := fun W => has_any op 2 W
  have hm := fun W (x : Rd W so sn sx) (y : Rd W ao an ax) => mayA_any so ao sn sc an ac sx ax W x y
  have hm2 := fun W (x : Rd W to tn sy) (y : Rd W bo bn ay) => mayA_any to bo tn tc bn bc sy ay W x y
  rw [c] at hh
  rw [m0] at hm
  rw [m1] at hm2
  have hd := fun W (x : Rd W so sn sx) (y : Rd W ao an ax) (z : Rd W to tn sy) (u : Rd W bo bn ay) => dyad_any op so ao to bo sn sc an ac tn tc bn bc sx ax sy ay W x y z u hs ht
  have HD : Hid (ddE op sx ax sy ay = if agrB sx sy = true then fe (dyR op sx ax sy ay) else 11) := by
    show _ = _
    have hl : lck (Nm.dE op 0 0) = false := by
      unfold hasB at c
      rw [if_neg (by decide), if_pos rfl] at c
      simpa using c
    unfold ddE
    rw [if_neg (by rw [m0, m1]; simp), if_neg (by rw [hl]; decide)]
  have HS : Hid (ddS op sx ax sy ay = onOk (ddE op sx ax sy ay) (agrL sx sy)) := rfl
  have HA : Hid (ddA op sx ax sy ay = onOk (ddE op sx ax sy ay) (dyL op sx ax sy ay)) := rfl
  have HF : Hid (agrB sx sy = true → ax.length * dyB sx sy sx = dyN sx sy ∧ ay.length * dyB sx sy sy = dyN sx sy ∧ mayF (agrL sx sy) = 0) := fun ha => by
    obtain ⟨f1, f2, f3, f4, f5, f6, f7, f8, f9, fM⟩ := dy_facts m0 m1 ha
    exact ⟨f5, f6, fM⟩
  have E1 : Hid (sx.length = sn) := h1.len
  have E2 : Hid (ax.length = an) := h2.len
  have E3 : Hid (sy.length = tn) := h3.len
  have E4 : Hid (ay.length = bn) := h4.len
  have x1 := h1.room
  have x3 := h3.room
  have x2 := h2.room
  have x4 := h4.room
  clear c m0 m1 h1 h2 h3 h4
  go_enter Try.func3, Try.ntmps3
  go_wp2_with (first | (go_at_call 4; refine (begun5_any _).mono ?_; rintro e W1 ⟨rfl, k1⟩; have I1 := I0.below k1) | (go_at_call 5; refine (hh _).mono ?_; rintro e W2 ⟨rfl, k2⟩; have I2 := I1.below k2; have I2' := I2; obtain ⟨p0, p1, p2, p3, _, _, _, _, _⟩ := I2') | (go_at_call 6; (with_reducible refine (hm _ I2.s I2.a).mono ?_); rintro e W3 ⟨rfl, k3⟩; have I3 := I2.below k3; have I3' := I3; obtain ⟨q0, q1, q2, q3, _, _, _, _, _⟩ := I3') | (go_at_call 6; (with_reducible refine (hm2 _ I3.t I3.b).mono ?_); rintro e W4 ⟨rfl, k4⟩; have I4 := I3.below k4; have I4' := I4; obtain ⟨r0, r1, r2, r3, _, _, _, _, _⟩ := I4'))
  clear hh hm hm2 I0 p0 p1 p2 p3 q0 q1 q2 q3 r0 r1 r2 r3
  go_loopw [7, 8] (fun g i V => ∃ k : Nat, k ≤ sn ∧ k ≤ tn ∧ i = .int .i64 (k : Nat) ∧ g = .bool (agK sx sy k) ∧ Lg w V so sn sc ao an ac to tn tc bo bn bc sx ax sy ay) (fun _ i _ => sn - (intOf i).toNat)
  case atStart => exact ⟨0, Nat.zero_le _, Nat.zero_le _, rfl, by rw [agK_zero], I4⟩
  case round =>
    obtain ⟨k, ks, kt, rfl, rfl, J⟩ := hrel
    have J' := J
    obtain ⟨u0, u1, u2, u3, _, _, _, _, _⟩ := J'
    clear I4
    by_cases c1 : k < sn
    · by_cases c2 : k < tn
      · have t1 : decide ((k : Int) < (sn : Int)) = true := by simp; omega
        have t2 : decide ((k : Int) < (tn : Int)) = true := by simp; omega
        have b1 : (k : Int) < (sn : Int) := by omega
        have b2 : (k : Int) < (tn : Int) := by omega
        have w1 : IntKind.i64.wrap ((k : Int) + 1) = (k : Int) + 1 := wrapIn _ (by omega)
        obtain ⟨p, off, rfl, hp, hc⟩ := J.s.cells (by omega)
        obtain ⟨p2, off2, rfl, hp2, hc2⟩ := J.t.cells (by omega)
        have d1 := hc k c1
        have d2 := hc2 k c2
        clear hc hc2
        cases hg : agK sx sy k
        · have HG : Hid (agK sx sy k = false) := hg
          clear hg
          go_wp2
          go_quiet (fail)
          go_wp2
          go_roundw
          case rel => exact ⟨k + 1, by omega, by omega, by go_num, by rw [agK_stay HG.out], J.below (below_drewN (Below.refl _ _) _)⟩
          case measure => simp [intOf]; omega
        · have HG : Hid (agK sx sy k = true) := hg
          clear hg
          by_cases he : nth sx k = nth sy k
          · have hne : (nth sx k == nth sy k) = true := by simpa using he
            have HE : Hid (nth sx k = nth sy k) := he
            clear he
            go_wp2
            go_quiet (fail)
            go_wp2
            go_roundw
            case rel => exact ⟨k + 1, by omega, by omega, by go_num, by rw [agK_yes HG.out HE.out], J.below (below_drewN (Below.refl _ _) _)⟩
            case measure => simp [intOf]; omega
          · have hne : (nth sx k == nth sy k) = false := by simpa using he
            have HE : Hid (nth sx k ≠ nth sy k) := he
            clear he
            go_wp2
            go_quiet (fail)
            go_wp2
            go_roundw
            case rel => exact ⟨k + 1, by omega, by omega, by go_num, by rw [agK_no HE.out], J.below (below_drewN (Below.refl _ _) _)⟩
            case measure => simp [intOf]; omega
      · obtain rfl : k = tn := by omega
        have t1 : decide ((k : Int) < (sn : Int)) = true := by simp; omega
        have t2 : decide ((k : Int) < (k : Int)) = false := by simp
        have t3 : decide ((sn : Int) < (k : Int)) = false := by simp; omega
        have b1 : (k : Int) < (sn : Int) := by omega
        cases hg : agK sx sy k
        · have ha : agrB sx sy = false := by rw [agK_end (k := k) (by rw [E1.out]; omega) (by rw [E3.out]; omega) (by rw [E1.out, E3.out]; omega)]; exact hg
          have hE : ddE op sx ax sy ay = 11 := by rw [HD.out, if_neg (by rw [ha]; decide)]
          have hS : ddS op sx ax sy ay = [] := by rw [HS.out, hE, onOk_no (by decide)]
          have hA : ddA op sx ax sy ay = [] := by rw [HA.out, hE, onOk_no (by decide)]
          rw [hE, hS, hA] at hd
          clear hE hS hA ha hg
          go_wp2_with (first | (go_at_call 7; (with_reducible refine (hd _ J.s J.a J.t J.b).mono ?_); rintro e W5 ⟨o1, n1, c1, o2, n2, c2, rfl, g1, g2, k5⟩; have I6 := (J.below k5).below (box_below W5 (.cells #[.slice o1 n1 c1, .slice o2 n2 c2] 25)); have I6' := I6; obtain ⟨u0, u1, u2, u3, _, _, _, _, _⟩ := I6'; obtain ⟨l0, l1, _, _⟩ := box2 (allocNew W5 (.cells #[.slice o1 n1 c1, .slice o2 n2 c2] 25)); have e1 := g1.rd.below (box_below W5 (.cells #[.slice o1 n1 c1, .slice o2 n2 c2] 25)) (Nat.le_refl _); have e2 := g2.rd.below (box_below W5 (.cells #[.slice o1 n1 c1, .slice o2 n2 c2] 25)) (Nat.le_refl _)) | (go_at_call 8; (with_reducible refine (eq_nil _ _ _ _ _ _ _ e1 e2).mono ?_); rintro e W6 ⟨rfl, k6⟩; obtain ⟨l0', l1', _, _⟩ := box2 ((k6.block W5.heap.size (by simp)).trans (allocNew W5 (.cells #[.slice o1 n1 c1, .slice o2 n2 c2] 25)))))
          go_ret
          exact ⟨rfl, btw I6.bel k6 I6.bel.size⟩
        · have ha : agrB sx sy = true := by rw [agK_end (k := k) (by rw [E1.out]; omega) (by rw [E3.out]; omega) (by rw [E1.out, E3.out]; omega)]; exact hg
          have hE : ddE op sx ax sy ay = fe (dyR op sx ax sy ay) := by rw [HD.out, if_pos ha]
          obtain ⟨f1, f2, fM⟩ := HF.out ha
          rw [E2.out] at f1
          rw [E4.out] at f2
          have hL : agrL sx sy = sx := agrL_x ha (by rw [E1.out, E3.out]; omega)
          have hmy := may_dy (op := op) (ax := ax) (ay := ay) fM
          have hne := er_len (dyR_er op sx ax sy ay)
          have hno := dyR_none op sx ax sy ay
          have hS := HS.out
          have hA := HA.out
          rw [hE, hL] at hS
          rw [hE] at hA
          rw [hL] at hmy fM
          rw [hE] at hd
          clear hg ha hE hL
          have hma := fun V o1 n1 c1 o2 n2 c2 (x : Rd V o1 n1 sx) (y : Rd V o2 n2 (dyL op sx ax sy ay)) => mayA_any o1 o2 n1 c1 n2 c2 _ _ V x y
          rw [hmy] at hma
          generalize fe (dyR op sx ax sy ay) = E at *
          generalize dyL op sx ax sy ay = LL at *
          by_cases z1 : an = 0 ∨ bn = 0
          · obtain ⟨hE0, hL0⟩ := hno (by rcases z1 with z | z; (· rw [z, Nat.zero_mul] at f1; omega); (· rw [z, Nat.zero_mul] at f2; omega))
            subst hE0 hL0
            rw [onOk_ok rfl] at hS hA
            rw [hS, hA] at hd
            clear hne hma hmy hno hS hA f1 f2
            rcases Nat.eq_zero_or_pos an with z | z
            · subst z
              go_wp2_with (first | (go_at_call 7; (with_reducible refine (hd _ J.s J.a J.t J.b).mono ?_); rintro e W5 ⟨o1, n1, c1, o2, n2, c2, rfl, g1, g2, k5⟩; have I6 := (J.below k5).below (box_below W5 (.cells #[.slice o1 n1 c1, .slice o2 n2 c2] 25)); have I6' := I6; obtain ⟨u0, u1, u2, u3, _, _, _, _, _⟩ := I6'; obtain ⟨l0, l1, _, _⟩ := box2 (allocNew W5 (.cells #[.slice o1 n1 c1, .slice o2 n2 c2] 25)); have e1 := g1.rd.below (box_below W5 (.cells #[.slice o1 n1 c1, .slice o2 n2 c2] 25)) (Nat.le_refl _); have e2 := g2.rd.below (box_below W5 (.cells #[.slice o1 n1 c1, .slice o2 n2 c2] 25)) (Nat.le_refl _)) | (go_at_call 8; (with_reducible refine (eq_long _ _ _ _ _ _ _ _ _ _ _ e1 e2 I6.s).mono ?_); rintro e W6 ⟨rfl, k6⟩; obtain ⟨l0', l1', _, _⟩ := box2 ((k6.block W5.heap.size (by simp)).trans (allocNew W5 (.cells #[.slice o1 n1 c1, .slice o2 n2 c2] 25)))))
              go_ret
              exact ⟨rfl, btw I6.bel k6 I6.bel.size⟩
            · have z2 : bn = 0 := by omega
              have z3 : ((an : Int) == 0) = false := by simp; omega
              have z4 : ¬ an = 0 := by omega
              subst z2
              go_wp2_with (first | (go_at_call 7; (with_reducible refine (hd _ J.s J.a J.t J.b).mono ?_); rintro e W5 ⟨o1, n1, c1, o2, n2, c2, rfl, g1, g2, k5⟩; have I6 := (J.below k5).below (box_below W5 (.cells #[.slice o1 n1 c1, .slice o2 n2 c2] 25)); have I6' := I6; obtain ⟨u0, u1, u2, u3, _, _, _, _, _⟩ := I6'; obtain ⟨l0, l1, _, _⟩ := box2 (allocNew W5 (.cells #[.slice o1 n1 c1, .slice o2 n2 c2] 25)); have e1 := g1.rd.below (box_below W5 (.cells #[.slice o1 n1 c1, .slice o2 n2 c2] 25)) (Nat.le_refl _); have e2 := g2.rd.below (box_below W5 (.cells #[.slice o1 n1 c1, .slice o2 n2 c2] 25)) (Nat.le_refl _)) | (go_at_call 8; (with_reducible refine (eq_long _ _ _ _ _ _ _ _ _ _ _ e1 e2 I6.s).mono ?_); rintro e W6 ⟨rfl, k6⟩; obtain ⟨l0', l1', _, _⟩ := box2 ((k6.block W5.heap.size (by simp)).trans (allocNew W5 (.cells #[.slice o1 n1 c1, .slice o2 n2 c2] 25)))))
              go_ret
              exact ⟨rfl, btw I6.bel k6 I6.bel.size⟩
          · have z3 : ((an : Int) == 0) = false := by simp; omega
            have z4 : ¬ an = 0 := by omega
            have z5 : ((bn : Int) == 0) = false := by simp; omega
            have z6 : ¬ bn = 0 := by omega
            have ne : (E == 11) = false := by simpa using hne
            by_cases hE0 : E = 0
            · subst hE0
              rw [onOk_ok rfl] at hS hA
              rw [hS, hA] at hd
              clear hne hmy hno hS hA f1 f2 ne z1
              go_wp2_with (first | (go_at_call 7; (with_reducible refine (hd _ J.s J.a J.t J.b).mono ?_); rintro e W5 ⟨o1, n1, c1, o2, n2, c2, rfl, g1, g2, k5⟩; have I6 := (J.below k5).below (box_below W5 (.cells #[.slice o1 n1 c1, .slice o2 n2 c2] 25)); have I6' := I6; obtain ⟨u0, u1, u2, u3, _, _, _, _, _⟩ := I6'; obtain ⟨l0, l1, _, _⟩ := box2 (allocNew W5 (.cells #[.slice o1 n1 c1, .slice o2 n2 c2] 25)); have e1 := g1.rd.below (box_below W5 (.cells #[.slice o1 n1 c1, .slice o2 n2 c2] 25)) (Nat.le_refl _); have e2 := g2.rd.below (box_below W5 (.cells #[.slice o1 n1 c1, .slice o2 n2 c2] 25)) (Nat.le_refl _)) | (go_at_call 8; (with_reducible refine (eq_shapes _ _ _ _ _ _ _ _ e1 I6.s).mono ?_); rintro e W6 ⟨rfl, k6⟩; obtain ⟨l0', l1', _, _⟩ := box2 ((k6.block W5.heap.size (by simp)).trans (allocNew W5 (.cells #[.slice o1 n1 c1, .slice o2 n2 c2] 25)))) | (go_at_call 6; (with_reducible refine (hma _ _ _ _ _ _ _ (e1.below k6 (Nat.le_refl _)) (e2.below k6 (Nat.le_refl _))).mono ?_); rintro e W7 ⟨rfl, k7⟩))
              go_ret
              have b6 := btw I6.bel k6 I6.bel.size
              exact ⟨rfl, btw b6 k7 b6.size⟩
            · have e0 : (E != 0) = true := by simpa using hE0
              clear hne hma hmy hno hS hA f1 f2 z1 hE0
              go_wp2_with (first | (go_at_call 7; (with_reducible refine (hd _ J.s J.a J.t J.b).mono ?_); rintro e W5 ⟨o1, n1, c1, o2, n2, c2, rfl, g1, g2, k5⟩; have I6 := (J.below k5).below (box_below W5 (.cells #[.slice o1 n1 c1, .slice o2 n2 c2] 25)); have I6' := I6; obtain ⟨u0, u1, u2, u3, _, _, _, _, _⟩ := I6'; obtain ⟨l0, l1, _, _⟩ := box2 (allocNew W5 (.cells #[.slice o1 n1 c1, .slice o2 n2 c2] 25)); have e1 := g1.rd.below (box_below W5 (.cells #[.slice o1 n1 c1, .slice o2 n2 c2] 25)) (Nat.le_refl _); have e2 := g2.rd.below (box_below W5 (.cells #[.slice o1 n1 c1, .slice o2 n2 c2] 25)) (Nat.le_refl _)))
              go_ret
              exact ⟨rfl, I6.bel⟩
    · obtain rfl : k = sn := by omega
      by_cases c3 : k < tn
      · have t1 : decide ((k : Int) < (k : Int)) = false := by simp
        have t3 : decide ((k : Int) < (tn : Int)) = true := by simp; omega
        have b1 : (k : Int) < (tn : Int) := by omega
        cases hg : agK sx sy k
        · have ha : agrB sx sy = false := by rw [agK_end (k := k) (by rw [E1.out]; omega) (by rw [E3.out]; omega) (by rw [E1.out, E3.out]; omega)]; exact hg
          have hE : ddE op sx ax sy ay = 11 := by rw [HD.out, if_neg (by rw [ha]; decide)]
          have hS : ddS op sx ax sy ay = [] := by rw [HS.out, hE, onOk_no (by decide)]
          have hA : ddA op sx ax sy ay = [] := by rw [HA.out, hE, onOk_no (by decide)]
          rw [hE, hS, hA] at hd
          clear hE hS hA ha hg
          go_wp2_with (first | (go_at_call 7; (with_reducible refine (hd _ J.s J.a J.t J.b).mono ?_); rintro e W5 ⟨o1, n1, c1, o2, n2, c2, rfl, g1, g2, k5⟩; have I6 := (J.below k5).below (box_below W5 (.cells #[.slice o1 n1 c1, .slice o2 n2 c2] 25)); have I6' := I6; obtain ⟨u0, u1, u2, u3, _, _, _, _, _⟩ := I6'; obtain ⟨l0, l1, _, _⟩ := box2 (allocNew W5 (.cells #[.slice o1 n1 c1, .slice o2 n2 c2] 25)); have e1 := g1.rd.below (box_below W5 (.cells #[.slice o1 n1 c1, .slice o2 n2 c2] 25)) (Nat.le_refl _); have e2 := g2.rd.below (box_below W5 (.cells #[.slice o1 n1 c1, .slice o2 n2 c2] 25)) (Nat.le_refl _)) | (go_at_call 8; (with_reducible refine (eq_nil _ _ _ _ _ _ _ e1 e2).mono ?_); rintro e W6 ⟨rfl, k6⟩; obtain ⟨l0', l1', _, _⟩ := box2 ((k6.block W5.heap.size (by simp)).trans (allocNew W5 (.cells #[.slice o1 n1 c1, .slice o2 n2 c2] 25)))))
          go_ret
          exact ⟨rfl, btw I6.bel k6 I6.bel.size⟩
        · have ha : agrB sx sy = true := by rw [agK_end (k := k) (by rw [E1.out]; omega) (by rw [E3.out]; omega) (by rw [E1.out, E3.out]; omega)]; exact hg
          have hE : ddE op sx ax sy ay = fe (dyR op sx ax sy ay) := by rw [HD.out, if_pos ha]
          obtain ⟨f1, f2, fM⟩ := HF.out ha
          rw [E2.out] at f1
          rw [E4.out] at f2
          have hL : agrL sx sy = sy := agrL_y ha (by rw [E1.out, E3.out]; omega)
          have hmy := may_dy (op := op) (ax := ax) (ay := ay) fM
          have hne := er_len (dyR_er op sx ax sy ay)
          have hno := dyR_none op sx ax sy ay
          have hS := HS.out
          have hA := HA.out
          rw [hE, hL] at hS
          rw [hE] at hA
          rw [hL] at hmy fM
          rw [hE] at hd
          clear hg ha hE hL
          have hma := fun V o1 n1 c1 o2 n2 c2 (x : Rd V o1 n1 sy) (y : Rd V o2 n2 (dyL op sx ax sy ay)) => mayA_any o1 o2 n1 c1 n2 c2 _ _ V x y
          rw [hmy] at hma
          generalize fe (dyR op sx ax sy ay) = E at *
          generalize dyL op sx ax sy ay = LL at *
          by_cases z1 : an = 0 ∨ bn = 0
          · obtain ⟨hE0, hL0⟩ := hno (by rcases z1 with z | z; (· rw [z, Nat.zero_mul] at f1; omega); (· rw [z, Nat.zero_mul] at f2; omega))
            subst hE0 hL0
            rw [onOk_ok rfl] at hS hA
            rw [hS, hA] at hd
            clear hne hma hmy hno hS hA f1 f2
            rcases Nat.eq_zero_or_pos an with z | z
            · subst z
              go_wp2_with (first | (go_at_call 7; (with_reducible refine (hd _ J.s J.a J.t J.b).mono ?_); rintro e W5 ⟨o1, n1, c1, o2, n2, c2, rfl, g1, g2, k5⟩; have I6 := (J.below k5).below (box_below W5 (.cells #[.slice o1 n1 c1, .slice o2 n2 c2] 25)); have I6' := I6; obtain ⟨u0, u1, u2, u3, _, _, _, _, _⟩ := I6'; obtain ⟨l0, l1, _, _⟩ := box2 (allocNew W5 (.cells #[.slice o1 n1 c1, .slice o2 n2 c2] 25)); have e1 := g1.rd.below (box_below W5 (.cells #[.slice o1 n1 c1, .slice o2 n2 c2] 25)) (Nat.le_refl _); have e2 := g2.rd.below (box_below W5 (.cells #[.slice o1 n1 c1, .slice o2 n2 c2] 25)) (Nat.le_refl _)) | (go_at_call 8; (with_reducible refine (eq_long _ _ _ _ _ _ _ _ _ _ _ e1 e2 I6.t).mono ?_); rintro e W6 ⟨rfl, k6⟩; obtain ⟨l0', l1', _, _⟩ := box2 ((k6.block W5.heap.size (by simp)).trans (allocNew W5 (.cells #[.slice o1 n1 c1, .slice o2 n2 c2] 25)))))
              go_ret
              exact ⟨rfl, btw I6.bel k6 I6.bel.size⟩
            · have z2 : bn = 0 := by omega
              have z3 : ((an : Int) == 0) = false := by simp; omega
              have z4 : ¬ an = 0 := by omega
              subst z2
              go_wp2_with (first | (go_at_call 7; (with_reducible refine (hd _ J.s J.a J.t J.b).mono ?_); rintro e W5 ⟨o1, n1, c1, o2, n2, c2, rfl, g1, g2, k5⟩; have I6 := (J.below k5).below (box_below W5 (.cells #[.slice o1 n1 c1, .slice o2 n2 c2] 25)); have I6' := I6; obtain ⟨u0, u1, u2, u3, _, _, _, _, _⟩ := I6'; obtain ⟨l0, l1, _, _⟩ := box2 (allocNew W5 (.cells #[.slice o1 n1 c1, .slice o2 n2 c2] 25)); have e1 := g1.rd.below (box_below W5 (.cells #[.slice o1 n1 c1, .slice o2 n2 c2] 25)) (Nat.le_refl _); have e2 := g2.rd.below (box_below W5 (.cells #[.slice o1 n1 c1, .slice o2 n2 c2] 25)) (Nat.le_refl _)) | (go_at_call 8; (with_reducible refine (eq_long _ _ _ _ _ _ _ _ _ _ _ e1 e2 I6.t).mono ?_); rintro e W6 ⟨rfl, k6⟩; obtain ⟨l0', l1', _, _⟩ := box2 ((k6.block W5.heap.size (by simp)).trans (allocNew W5 (.cells #[.slice o1 n1 c1, .slice o2 n2 c2] 25)))))
              go_ret
              exact ⟨rfl, btw I6.bel k6 I6.bel.size⟩
          · have z3 : ((an : Int) == 0) = false := by simp; omega
            have z4 : ¬ an = 0 := by omega
            have z5 : ((bn : Int) == 0) = false := by simp; omega
            have z6 : ¬ bn = 0 := by omega
            have ne : (E == 11) = false := by simpa using hne
            by_cases hE0 : E = 0
            · subst hE0
              rw [onOk_ok rfl] at hS hA
              rw [hS, hA] at hd
              clear hne hmy hno hS hA f1 f2 ne z1
              go_wp2_with (first | (go_at_call 7; (with_reducible refine (hd _ J.s J.a J.t J.b).mono ?_); rintro e W5 ⟨o1, n1, c1, o2, n2, c2, rfl, g1, g2, k5⟩; have I6 := (J.below k5).below (box_below W5 (.cells #[.slice o1 n1 c1, .slice o2 n2 c2] 25)); have I6' := I6; obtain ⟨u0, u1, u2, u3, _, _, _, _, _⟩ := I6'; obtain ⟨l0, l1, _, _⟩ := box2 (allocNew W5 (.cells #[.slice o1 n1 c1, .slice o2 n2 c2] 25)); have e1 := g1.rd.below (box_below W5 (.cells #[.slice o1 n1 c1, .slice o2 n2 c2] 25)) (Nat.le_refl _); have e2 := g2.rd.below (box_below W5 (.cells #[.slice o1 n1 c1, .slice o2 n2 c2] 25)) (Nat.le_refl _)) | (go_at_call 8; (with_reducible refine (eq_shapes _ _ _ _ _ _ _ _ e1 I6.t).mono ?_); rintro e W6 ⟨rfl, k6⟩; obtain ⟨l0', l1', _, _⟩ := box2 ((k6.block W5.heap.size (by simp)).trans (allocNew W5 (.cells #[.slice o1 n1 c1, .slice o2 n2 c2] 25)))) | (go_at_call 6; (with_reducible refine (hma _ _ _ _ _ _ _ (e1.below k6 (Nat.le_refl _)) (e2.below k6 (Nat.le_refl _))).mono ?_); rintro e W7 ⟨rfl, k7⟩))
              go_ret
              have b6 := btw I6.bel k6 I6.bel.size
              exact ⟨rfl, btw b6 k7 b6.size⟩
            · have e0 : (E != 0) = true := by simpa using hE0
              clear hne hma hmy hno hS hA f1 f2 z1 hE0
              go_wp2_with (first | (go_at_call 7; (with_reducible refine (hd _ J.s J.a J.t J.b).mono ?_); rintro e W5 ⟨o1, n1, c1, o2, n2, c2, rfl, g1, g2, k5⟩; have I6 := (J.below k5).below (box_below W5 (.cells #[.slice o1 n1 c1, .slice o2 n2 c2] 25)); have I6' := I6; obtain ⟨u0, u1, u2, u3, _, _, _, _, _⟩ := I6'; obtain ⟨l0, l1, _, _⟩ := box2 (allocNew W5 (.cells #[.slice o1 n1 c1, .slice o2 n2 c2] 25)); have e1 := g1.rd.below (box_below W5 (.cells #[.slice o1 n1 c1, .slice o2 n2 c2] 25)) (Nat.le_refl _); have e2 := g2.rd.below (box_below W5 (.cells #[.slice o1 n1 c1, .slice o2 n2 c2] 25)) (Nat.le_refl _)))
              go_ret
              exact ⟨rfl, I6.bel⟩
      · obtain rfl : k = tn := by omega
        have t1 : decide ((k : Int) < (k : Int)) = false := by simp
        cases hg : agK sx sy k
        · have ha : agrB sx sy = false := by rw [agK_end (k := k) (by rw [E1.out]; omega) (by rw [E3.out]; omega) (by rw [E1.out, E3.out]; omega)]; exact hg
          have hE : ddE op sx ax sy ay = 11 := by rw [HD.out, if_neg (by rw [ha]; decide)]
          have hS : ddS op sx ax sy ay = [] := by rw [HS.out, hE, onOk_no (by decide)]
          have hA : ddA op sx ax sy ay = [] := by rw [HA.out, hE, onOk_no (by decide)]
          rw [hE, hS, hA] at hd
          clear hE hS hA ha hg
          go_wp2_with (first | (go_at_call 7; (with_reducible refine (hd _ J.s J.a J.t J.b).mono ?_); rintro e W5 ⟨o1, n1, c1, o2, n2, c2, rfl, g1, g2, k5⟩; have I6 := (J.below k5).below (box_below W5 (.cells #[.slice o1 n1 c1, .slice o2 n2 c2] 25)); have I6' := I6; obtain ⟨u0, u1, u2, u3, _, _, _, _, _⟩ := I6'; obtain ⟨l0, l1, _, _⟩ := box2 (allocNew W5 (.cells #[.slice o1 n1 c1, .slice o2 n2 c2] 25)); have e1 := g1.rd.below (box_below W5 (.cells #[.slice o1 n1 c1, .slice o2 n2 c2] 25)) (Nat.le_refl _); have e2 := g2.rd.below (box_below W5 (.cells #[.slice o1 n1 c1, .slice o2 n2 c2] 25)) (Nat.le_refl _)) | (go_at_call 8; (with_reducible refine (eq_nil _ _ _ _ _ _ _ e1 e2).mono ?_); rintro e W6 ⟨rfl, k6⟩; obtain ⟨l0', l1', _, _⟩ := box2 ((k6.block W5.heap.size (by simp)).trans (allocNew W5 (.cells #[.slice o1 n1 c1, .slice o2 n2 c2] 25)))))
          go_ret
          exact ⟨rfl, btw I6.bel k6 I6.bel.size⟩
        · have ha : agrB sx sy = true := by rw [agK_end (k := k) (by rw [E1.out]; omega) (by rw [E3.out]; omega) (by rw [E1.out, E3.out]; omega)]; exact hg
          have hE : ddE op sx ax sy ay = fe (dyR op sx ax sy ay) := by rw [HD.out, if_pos ha]
          obtain ⟨f1, f2, fM⟩ := HF.out ha
          rw [E2.out] at f1
          rw [E4.out] at f2
          have hL : agrL sx sy = sx := agrL_x ha (by rw [E1.out, E3.out]; omega)
          have hmy := may_dy (op := op) (ax := ax) (ay := ay) fM
          have hne := er_len (dyR_er op sx ax sy ay)
          have hno := dyR_none op sx ax sy ay
          have hS := HS.out
          have hA := HA.out
          rw [hE, hL] at hS
          rw [hE] at hA
          rw [hL] at hmy fM
          rw [hE] at hd
          clear hg ha hE hL
          have hma := fun V o1 n1 c1 o2 n2 c2 (x : Rd V o1 n1 sx) (y : Rd V o2 n2 (dyL op sx ax sy ay)) => mayA_any o1 o2 n1 c1 n2 c2 _ _ V x y
          rw [hmy] at hma
          generalize fe (dyR op sx ax sy ay) = E at *
          generalize dyL op sx ax sy ay = LL at *
          by_cases z1 : an = 0 ∨ bn = 0
          · obtain ⟨hE0, hL0⟩ := hno (by rcases z1 with z | z; (· rw [z, Nat.zero_mul] at f1; omega); (· rw [z, Nat.zero_mul] at f2; omega))
            subst hE0 hL0
            rw [onOk_ok rfl] at hS hA
            rw [hS, hA] at hd
            clear hne hma hmy hno hS hA f1 f2
            rcases Nat.eq_zero_or_pos an with z | z
            · subst z
              go_wp2_with (first | (go_at_call 7; (with_reducible refine (hd _ J.s J.a J.t J.b).mono ?_); rintro e W5 ⟨o1, n1, c1, o2, n2, c2, rfl, g1, g2, k5⟩; have I6 := (J.below k5).below (box_below W5 (.cells #[.slice o1 n1 c1, .slice o2 n2 c2] 25)); have I6' := I6; obtain ⟨u0, u1, u2, u3, _, _, _, _, _⟩ := I6'; obtain ⟨l0, l1, _, _⟩ := box2 (allocNew W5 (.cells #[.slice o1 n1 c1, .slice o2 n2 c2] 25)); have e1 := g1.rd.below (box_below W5 (.cells #[.slice o1 n1 c1, .slice o2 n2 c2] 25)) (Nat.le_refl _); have e2 := g2.rd.below (box_below W5 (.cells #[.slice o1 n1 c1, .slice o2 n2 c2] 25)) (Nat.le_refl _)) | (go_at_call 8; (with_reducible refine (eq_long _ _ _ _ _ _ _ _ _ _ _ e1 e2 I6.s).mono ?_); rintro e W6 ⟨rfl, k6⟩; obtain ⟨l0', l1', _, _⟩ := box2 ((k6.block W5.heap.size (by simp)).trans (allocNew W5 (.cells #[.slice o1 n1 c1, .slice o2 n2 c2] 25)))))
              go_ret
              exact ⟨rfl, btw I6.bel k6 I6.bel.size⟩
            · have z2 : bn = 0 := by omega
              have z3 : ((an : Int) == 0) = false := by simp; omega
              have z4 : ¬ an = 0 := by omega
              subst z2
              go_wp2_with (first | (go_at_call 7; (with_reducible refine (hd _ J.s J.a J.t J.b).mono ?_); rintro e W5 ⟨o1, n1, c1, o2, n2, c2, rfl, g1, g2, k5⟩; have I6 := (J.below k5).below (box_below W5 (.cells #[.slice o1 n1 c1, .slice o2 n2 c2] 25)); have I6' := I6; obtain ⟨u0, u1, u2, u3, _, _, _, _, _⟩ := I6'; obtain ⟨l0, l1, _, _⟩ := box2 (allocNew W5 (.cells #[.slice o1 n1 c1, .slice o2 n2 c2] 25)); have e1 := g1.rd.below (box_below W5 (.cells #[.slice o1 n1 c1, .slice o2 n2 c2] 25)) (Nat.le_refl _); have e2 := g2.rd.below (box_below W5 (.cells #[.slice o1 n1 c1, .slice o2 n2 c2] 25)) (Nat.le_refl _)) | (go_at_call 8; (with_reducible refine (eq_long _ _ _ _ _ _ _ _ _ _ _ e1 e2 I6.s).mono ?_); rintro e W6 ⟨rfl, k6⟩; obtain ⟨l0', l1', _, _⟩ := box2 ((k6.block W5.heap.size (by simp)).trans (allocNew W5 (.cells #[.slice o1 n1 c1, .slice o2 n2 c2] 25)))))
              go_ret
              exact ⟨rfl, btw I6.bel k6 I6.bel.size⟩
          · have z3 : ((an : Int) == 0) = false := by simp; omega
            have z4 : ¬ an = 0 := by omega
            have z5 : ((bn : Int) == 0) = false := by simp; omega
            have z6 : ¬ bn = 0 := by omega
            have ne : (E == 11) = false := by simpa using hne
            by_cases hE0 : E = 0
            · subst hE0
              rw [onOk_ok rfl] at hS hA
              rw [hS, hA] at hd
              clear hne hmy hno hS hA f1 f2 ne z1
              go_wp2_with (first | (go_at_call 7; (with_reducible refine (hd _ J.s J.a J.t J.b).mono ?_); rintro e W5 ⟨o1, n1, c1, o2, n2, c2, rfl, g1, g2, k5⟩; have I6 := (J.below k5).below (box_below W5 (.cells #[.slice o1 n1 c1, .slice o2 n2 c2] 25)); have I6' := I6; obtain ⟨u0, u1, u2, u3, _, _, _, _, _⟩ := I6'; obtain ⟨l0, l1, _, _⟩ := box2 (allocNew W5 (.cells #[.slice o1 n1 c1, .slice o2 n2 c2] 25)); have e1 := g1.rd.below (box_below W5 (.cells #[.slice o1 n1 c1, .slice o2 n2 c2] 25)) (Nat.le_refl _); have e2 := g2.rd.below (box_below W5 (.cells #[.slice o1 n1 c1, .slice o2 n2 c2] 25)) (Nat.le_refl _)) | (go_at_call 8; (with_reducible refine (eq_shapes _ _ _ _ _ _ _ _ e1 I6.s).mono ?_); rintro e W6 ⟨rfl, k6⟩; obtain ⟨l0', l1', _, _⟩ := box2 ((k6.block W5.heap.size (by simp)).trans (allocNew W5 (.cells #[.slice o1 n1 c1, .slice o2 n2 c2] 25)))) | (go_at_call 6; (with_reducible refine (hma _ _ _ _ _ _ _ (e1.below k6 (Nat.le_refl _)) (e2.below k6 (Nat.le_refl _))).mono ?_); rintro e W7 ⟨rfl, k7⟩))
              go_ret
              have b6 := btw I6.bel k6 I6.bel.size
              exact ⟨rfl, btw b6 k7 b6.size⟩
            · have e0 : (E != 0) = true := by simpa using hE0
              clear hne hma hmy hno hS hA f1 f2 z1 hE0
              go_wp2_with (first | (go_at_call 7; (with_reducible refine (hd _ J.s J.a J.t J.b).mono ?_); rintro e W5 ⟨o1, n1, c1, o2, n2, c2, rfl, g1, g2, k5⟩; have I6 := (J.below k5).below (box_below W5 (.cells #[.slice o1 n1 c1, .slice o2 n2 c2] 25)); have I6' := I6; obtain ⟨u0, u1, u2, u3, _, _, _, _, _⟩ := I6'; obtain ⟨l0, l1, _, _⟩ := box2 (allocNew W5 (.cells #[.slice o1 n1 c1, .slice o2 n2 c2] 25)); have e1 := g1.rd.below (box_below W5 (.cells #[.slice o1 n1 c1, .slice o2 n2 c2] 25)) (Nat.le_refl _); have e2 := g2.rd.below (box_below W5 (.cells #[.slice o1 n1 c1, .slice o2 n2 c2] 25)) (Nat.le_refl _)))
              go_ret
              exact ⟨rfl, I6.bel⟩

theorem lengths_walk (op : Int) (so ao to bo : Option Addr) (sn sc an ac tn tc bn bc : Nat) (sx ax sy ay : List Int) (w : World) (h1 : Rd w so sn sx) (h2 : Rd w ao an ax) (h3 : Rd w to tn sy) (h4 : Rd w bo bn ay) (hs : Sl so sn sc) (ht : Sl to tn tc) :
    Calls Try.prog 3 #[.int .i64 op, .agg #[.slice so sn sc, .slice ao an ac], .agg #[.slice to tn tc, .slice bo bn bc]] w fun e w' => e = .returned (.bool true) ∧ Below w.heap.size w w' := by
  cases c : hasB op 2
  · exact len_has op so ao to bo sn sc an ac tn tc bn bc sx ax sy ay w h1 h2 h3 h4 c
  · by_cases m0 : mayA sx ax = 0
    · by_cases m1 : mayA sy ay = 0
      · exact len_go op so ao to bo sn sc an ac tn tc bn bc sx ax sy ay w h1 h2 h3 h4 hs ht c m0 m1
      · exact len_my op so ao to bo sn sc an ac tn tc bn bc sx ax sy ay w h1 h2 h3 h4 c m0 m1
    · exact len_mx op so ao to bo sn sc an ac tn tc bn bc sx ax sy ay w h1 h2 h3 h4 c m0
end Go.Proofs.Ytjllmfahmlfljab
