
/- The document's Same. -/

import Derived.Test.YtiahilelcppfgaaGreatSI

import Derived.Test.YtiahilelcppfgaaGreatTX

namespace Go.Proofs.YtiahilelcppfgaaGreat

open Go.RowKit

set_option linter.unusedVariables false

section

variable {P : Program} {ops : Array Oper} {Q : Exit → Act → World → Prop} {md : Region.Mode} {S : World → Prop} {A : Nat → Bool}

theorem wpAnyR_two {i j : Nat} {o p : Oper} {fuel : Nat} {listed : Array Bool} {a : Act} {w : World} (hr : Region.ready md ops listed = [i, j]) (ho : ops[i]? = some o) (hp : ops[j]? = some p)
    (h : ∀ K' : Act → World → Prop, (∀ a w, ((A i = true → S w) ∧ wpAnyR P md ops Q S A fuel (listed.setIfInBounds i true) a w) → K' a w) → if Region.wanted o (yielded ops a.tmps) = true then Oper.wp P o a w K' Q else K' (a.put o.dst undef) w)
    (g : ∀ K' : Act → World → Prop, (∀ a w, ((A j = true → S w) ∧ wpAnyR P md ops Q S A fuel (listed.setIfInBounds j true) a w) → K' a w) → if Region.wanted p (yielded ops a.tmps) = true then Oper.wp P p a w K' Q else K' (a.put p.dst undef) w) : wpAnyR P md ops Q S A (fuel + 1) listed a w :=
  ⟨fun h0 => (by rw [hr] at h0; cases h0), fun k hk => by
    rw [hr, List.mem_cons, List.mem_singleton] at hk
    rcases hk with rfl | rfl
    · exact wpOp_step ho h
    · exact wpOp_step hp g⟩
end

/-- Two boxes with a term each. -/
def Two6 (w : World) (sp sq : Value) (u0 u1 u2 u3 u4 u5 v0 v1 v2 v3 v4 v5 : Value) (V : World) : Prop := ∃ p q : Nat, sp = .pointer (some ⟨p, 0, none⟩) ∧ sq = .pointer (some ⟨q, 0, none⟩) ∧ (V.cell? ⟨p, 0, none⟩ = some u0 ∧ V.cell? ⟨p, 1, none⟩ = some u1 ∧ V.cell? ⟨p, 2, none⟩ = some u2 ∧ V.cell? ⟨p, 3, none⟩ = some u3 ∧ V.cell? ⟨p, 4, none⟩ = some u4 ∧ V.cell? ⟨p, 5, none⟩ = some u5) ∧ (V.cell? ⟨q, 0, none⟩ = some v0 ∧ V.cell? ⟨q, 1, none⟩ = some v1 ∧ V.cell? ⟨q, 2, none⟩ = some v2 ∧ V.cell? ⟨q, 3, none⟩ = some v3 ∧ V.cell? ⟨q, 4, none⟩ = some v4 ∧ V.cell? ⟨q, 5, none⟩ = some v5) ∧ Below w.heap.size w V
theorem decE {a b : Int} : decide (a = b) = (a == b) := by by_cases h : a = b <;> simp [h]
theorem decN {a b : Nat} : decide (a = b) = ((a : Int) == (b : Int)) := by by_cases h : a = b <;> simp [h] <;> omega
set_option linter.unusedSimpArgs false in
set_option maxRecDepth 100000 in
set_option maxHeartbeats 8000000 in
theorem rsame_any (d e : Nat) (x : Tr (d + 1)) (y : Tr (e + 1)) (c0 c1 c2 c3 c4 c5 b0 b1 b2 b3 b4 b5 : Value) (w : World) (h : Tv w (d + 1) x [c0, c1, c2, c3, c4, c5]) (h2 : Tv w (e + 1) y [b0, b1, b2, b3, b4, b5]) :
    Calls Tryz.prog 31 #[.agg #[c0, c1, c2, c3, c4, c5], .agg #[b0, b1, b2, b3, b4, b5]] w fun e' w' => e' = .returned (.bool (szO (d + 1) x && (szO (e + 1) y && alkB (d + 1) x (e + 1) y))) ∧ Below w.heap.size w w' := by
  obtain ⟨k1, t1, n1, so, sn, sc, ao, an, ac, uo, un, uc, ev⟩ := h.form
  injection ev with ev0 ev
  injection ev with ev1 ev
  injection ev with ev2 ev
  injection ev with ev3 ev
  injection ev with ev4 ev
  injection ev with ev5 ev
  subst ev0 ev1 ev2 ev3 ev4 ev5
  obtain ⟨k2, t2, n2, so2, sn2, sc2, ao2, an2, ac2, uo2, un2, uc2, ev⟩ := h2.form
  injection ev with ev0 ev
  injection ev with ev1 ev
  injection ev with ev2 ev
  injection ev with ev3 ev
  injection ev with ev4 ev
  injection ev with ev5 ev
  subst ev0 ev1 ev2 ev3 ev4 ev5
  have k0 := box_below w (.cells #[.int .i64 k1, .string t1, .int .i64 n1, .slice so sn sc, .slice ao an ac, .slice uo un uc] 31)
  have kb := box_below (w.alloc (.cells #[.int .i64 k1, .string t1, .int .i64 n1, .slice so sn sc, .slice ao an ac, .slice uo un uc] 31)) (.cells #[.int .i64 k2, .string t2, .int .i64 n2, .slice so2 sn2 sc2, .slice ao2 an2 ac2, .slice uo2 un2 uc2] 31)
  have kk := k0.trans (kb.mono k0.size)
  have R0 := (kb.block w.heap.size (by simp)).trans (allocNew w (.cells #[.int .i64 k1, .string t1, .int .i64 n1, .slice so sn sc, .slice ao an ac, .slice uo un uc] 31))
  have R1 := allocNew (w.alloc (.cells #[.int .i64 k1, .string t1, .int .i64 n1, .slice so sn sc, .slice ao an ac, .slice uo un uc] 31)) (.cells #[.int .i64 k2, .string t2, .int .i64 n2, .slice so2 sn2 sc2, .slice ao2 an2 ac2, .slice uo2 un2 uc2] 31)
  rw [World.size_alloc] at R1 kb
  obtain ⟨y0, y1, y2, y3, y4, y5⟩ := box6 R0
  obtain ⟨z0, z1, z2, z3, z4, z5⟩ := box6 R1
  have hr1 := row_any d x _ _ _ _ _ _ w _ h kk
  have hr2 := fun V (b : Below w.heap.size w V) => row_any e y _ _ _ _ _ _ w V h2 b
  have hz1 := row_size d x
  have hz2 := row_size e y
  have hend := fun l m => same_end (d := d) (e := e) (x := x) (y := y) (l := l) (m := m)
  clear h h2 k0
  cases ho : szO (d + 1) x
  · rw [hz1.2 ho] at hr1
    dsimp only [RowP] at hr1
    rw [Bool.false_and]
    cases hp : szO (e + 1) y
    · rw [hz2.2 hp] at hr2
      dsimp only [RowP] at hr2
      clear ho hp hz1 hz2 hend
      go_enter Tryz.func31, Tryz.ntmps31
      go_wp2_with (first
        | (go_at_call 49; (with_reducible refine (hr2 _ bb).mono ?_); rintro e w2 ⟨rfl, e2⟩; have bb2 := bb.trans (e2.mono bb.size))
        | (go_at_call 49; (with_reducible refine hr1.mono ?_); rintro e w1 ⟨rfl, e1⟩; have bb := kk.trans (e1.mono kk.size); obtain ⟨q0, q1, q2, q3, q4, q5⟩ := box6 ((e1.block (w.heap.size + 1) (by simp)).trans R1)))
      go_ret
      exact ⟨rfl, bb2⟩
    · obtain ⟨m, em, _⟩ := hz2.1 hp
      rw [em] at hr2
      dsimp only [RowP] at hr2
      clear ho hp hz1 hz2 hend em
      go_enter Tryz.func31, Tryz.ntmps31
      go_wp2_with (first
        | (go_at_call 49; (with_reducible refine (hr2 _ bb).mono ?_); rintro e w2 ⟨o, c, vals, rfl, N⟩; have bb2 := bb.trans (N.bel.mono bb.size); clear N)
        | (go_at_call 49; (with_reducible refine hr1.mono ?_); rintro e w1 ⟨rfl, e1⟩; have bb := kk.trans (e1.mono kk.size); obtain ⟨q0, q1, q2, q3, q4, q5⟩ := box6 ((e1.block (w.heap.size + 1) (by simp)).trans R1)))
      go_ret
      exact ⟨rfl, bb2⟩
  · obtain ⟨l, el, hl⟩ := hz1.1 ho
    have hso := of_decide_eq_true (show decide (nds (d + 1) x ≤ 4096 ∧ dep (d + 1) x ≤ 256) = true from ho)
    have hl4 : l.length ≤ 4096 := by omega
    rw [el] at hr1
    dsimp only [RowP] at hr1
    rw [Bool.true_and]
    cases hp : szO (e + 1) y
    · rw [hz2.2 hp] at hr2
      dsimp only [RowP] at hr2
      rw [Bool.false_and]
      clear ho hp hz1 hz2 hend hl hso
      go_enter Tryz.func31, Tryz.ntmps31
      go_wp2_with (first
        | (go_at_call 49; (with_reducible refine (hr2 _ bb).mono ?_); rintro e w2 ⟨rfl, e2⟩; have bb2 := bb.trans (e2.mono bb.size))
        | (go_at_call 49; (with_reducible refine hr1.mono ?_); rintro e w1 ⟨o, c, vals, rfl, N⟩; have bb := kk.trans (N.bel.mono kk.size); obtain ⟨q0, q1, q2, q3, q4, q5⟩ := box6 ((N.bel.block (w.heap.size + 1) (by simp)).trans R1); clear N))
      go_ret
      exact ⟨rfl, bb2⟩
    · obtain ⟨m, em, hm⟩ := hz2.1 hp
      rw [em] at hr2
      dsimp only [RowP] at hr2
      rw [Bool.true_and]
      have HE := hend l m el em
      generalize alkB (d + 1) x (e + 1) y = R at *
      clear ho hp hz1 hz2 hend hl hso hm el em
      by_cases hlm : l.length = m.length
      · obtain ⟨LL, hLL⟩ : ∃ LL, LL = l.length := ⟨_, rfl⟩
        have HLl : Hid (LL = l.length) := hLL
        have HLm : Hid (LL = m.length) := hLL.trans hlm
        have HEH : Hid _ := HE
        rw [← hLL] at hr1 hl4
        rw [← hlm, ← hLL] at hr2
        have t7 : ((LL : Int) == (LL : Int)) = true := by simp
        clear hlm hLL HE
        go_enter Tryz.func31, Tryz.ntmps31
        go_wp2_with (first
          | (go_at_call 49; (with_reducible refine (hr2 _ bb).mono ?_); rintro e w2 ⟨ob, cb, valb, rfl, NB⟩; have bb2 := bb.trans (NB.bel.mono bb.size); have HNB : Hid _ := NB; clear NB)
          | (go_at_call 49; (with_reducible refine hr1.mono ?_); rintro e w1 ⟨oa, ca, vala, rfl, NA⟩; have bb := kk.trans (NA.bel.mono kk.size); obtain ⟨q0, q1, q2, q3, q4, q5⟩ := box6 ((NA.bel.block (w.heap.size + 1) (by simp)).trans R1); have HNA : Hid _ := NA; clear NA))
        clear q0 q1 q2 q3 q4 q5 y0 y1 y2 y3 y4 y5 z0 z1 z2 z3 z4 z5 R0 R1 hr1 hr2
        have HB12 : Hid (Below w1.heap.size w1 w2) := HNB.out.bel
        go_loopw [9] (fun iv V => ∃ i : Nat, i ≤ LL ∧ iv = .int .i64 (i : Nat) ∧ Hid (∀ j, j < i → ∀ z y, l[j]? = some z → m[j]? = some y → cmpZ z y = true) ∧ Below w2.heap.size w2 V) (fun iv _ => LL - (intOf iv).toNat)
        case atStart => exact ⟨0, Nat.zero_le _, rfl, fun j hj => absurd hj (Nat.not_lt_zero _), Below.refl _ _⟩
        case round =>
          obtain ⟨i, hi, rfl, HJ, BV⟩ := hrel
          have BW := bb2.trans (BV.mono bb2.size)
          by_cases hlt : i < LL
          · have t3 : decide ((i : Int) < (LL : Int)) = true := by simp; omega
            have bi : (i : Int) < (LL : Int) := by omega
            obtain ⟨zz, hz⟩ : ∃ zz, l[i]? = some zz := ⟨l[i]'(by rw [← HLl.out]; exact hlt), by simp⟩
            obtain ⟨yy, hy⟩ : ∃ yy, m[i]? = some yy := ⟨m[i]'(by rw [← HLm.out]; exact hlt), by simp⟩
            obtain ⟨G1, c0, c1, c2, c3, c4, c5, rfl, hG1, hG1V, tz, p0, p1, p2, p3, p4, p5, _, _⟩ := zcell HNA.out hz
            obtain ⟨G2, b0, b1, b2, b3, b4, b5, rfl, hG2, hG2V, ty, r0, r1, r2, r3, r4, r5, _, _⟩ := zcell HNB.out hy
            obtain ⟨⟨so3, sn3, sc3, ao3, an3, ac3, uo3, uc3, ev, hs1, hs2, hs3, hs4, hk, hks⟩, _, _, _⟩ := tz
            injection ev with ev0 ev
            injection ev with ev1 ev
            injection ev with ev2 ev
            injection ev with ev3 ev
            injection ev with ev4 ev
            injection ev with ev5 ev
            subst ev0 ev1 ev2 ev3 ev4 ev5
            obtain ⟨⟨so4, sn4, sc4, ao4, an4, ac4, uo4, uc4, ev, ht1, ht2, ht3, ht4, hk', hks'⟩, _, _, _⟩ := ty
            injection ev with ev0 ev
            injection ev with ev1 ev
            injection ev with ev2 ev
            injection ev with ev3 ev
            injection ev with ev4 ev
            injection ev with ev5 ev
            subst ev0 ev1 ev2 ev3 ev4 ev5
            have hB1 := fun (V : World) (bV : Below wr.heap.size wr V) => (HB12.out.trans ((BV.trans (bV.mono BV.size)).mono HB12.out.size))
            have hB2 := fun (V : World) (bV : Below wr.heap.size wr V) => BV.trans (bV.mono BV.size)
            have HC : Hid (cmpZ zz yy = (decide (zz.x.nd.k = yy.x.nd.k) && ((zz.x.nd.t.toList == yy.x.nd.t.toList) && (decide (zz.x.nd.n = yy.x.nd.n) && (decide (zz.x.ks.length = yy.x.ks.length) && eqA zz.x.nd.sh zz.x.nd.at' yy.x.nd.sh yy.x.nd.at'))))) := rfl
            have hsm := fun V (b : Below w.heap.size w V) => refSame_any so3 ao3 so4 ao4 sn3 sc3 an3 ac3 sn4 sc4 an4 ac4 _ _ _ _ V (hs1.below b (Nat.le_refl _)) (hs3.below b (Nat.le_refl _)) (ht1.below b (Nat.le_refl _)) (ht3.below b (Nat.le_refl _))
            have HS : Hid (∀ V, Below wr.heap.size wr V → V.cell? ⟨G1, i * 8, none⟩ = some (.int .i64 zz.x.nd.k) ∧ V.cell? ⟨G1, i * 8 + 1, none⟩ = some (.string zz.x.nd.t) ∧ V.cell? ⟨G1, i * 8 + 2, none⟩ = some (.int .i64 zz.x.nd.n) ∧ V.cell? ⟨G1, i * 8 + 3, none⟩ = some (.slice so3 sn3 sc3) ∧ V.cell? ⟨G1, i * 8 + 4, none⟩ = some (.slice ao3 an3 ac3) ∧ V.cell? ⟨G1, i * 8 + 5, none⟩ = some (.slice uo3 zz.x.ks.length uc3) ∧ V.cell? ⟨G2, i * 8, none⟩ = some (.int .i64 yy.x.nd.k) ∧ V.cell? ⟨G2, i * 8 + 1, none⟩ = some (.string yy.x.nd.t) ∧ V.cell? ⟨G2, i * 8 + 2, none⟩ = some (.int .i64 yy.x.nd.n) ∧ V.cell? ⟨G2, i * 8 + 3, none⟩ = some (.slice so4 sn4 sc4) ∧ V.cell? ⟨G2, i * 8 + 4, none⟩ = some (.slice ao4 an4 ac4) ∧ V.cell? ⟨G2, i * 8 + 5, none⟩ = some (.slice uo4 yy.x.ks.length uc4)) := fun V bV => ⟨((hB1 V bV).cell (p := ⟨G1, i * 8, none⟩) hG1V).trans p0, ((hB1 V bV).cell (p := ⟨G1, i * 8 + 1, none⟩) hG1V).trans p1, ((hB1 V bV).cell (p := ⟨G1, i * 8 + 2, none⟩) hG1V).trans p2, ((hB1 V bV).cell (p := ⟨G1, i * 8 + 3, none⟩) hG1V).trans p3, ((hB1 V bV).cell (p := ⟨G1, i * 8 + 4, none⟩) hG1V).trans p4, ((hB1 V bV).cell (p := ⟨G1, i * 8 + 5, none⟩) hG1V).trans p5, ((hB2 V bV).cell (p := ⟨G2, i * 8, none⟩) hG2V).trans r0, ((hB2 V bV).cell (p := ⟨G2, i * 8 + 1, none⟩) hG2V).trans r1, ((hB2 V bV).cell (p := ⟨G2, i * 8 + 2, none⟩) hG2V).trans r2, ((hB2 V bV).cell (p := ⟨G2, i * 8 + 3, none⟩) hG2V).trans r3, ((hB2 V bV).cell (p := ⟨G2, i * 8 + 4, none⟩) hG2V).trans r4, ((hB2 V bV).cell (p := ⟨G2, i * 8 + 5, none⟩) hG2V).trans r5⟩
            have HZ : Hid (l[i]? = some zz) := hz
            have HY : Hid (m[i]? = some yy) := hy
            clear hs1 hs2 hs3 hs4 hk hks ht1 ht2 ht3 ht4 hk' hks' p0 p1 p2 p3 p4 p5 r0 r1 r2 r3 r4 r5 hB1 hB2 hz hy
            generalize zz.x.nd.k = k3 at *
            generalize zz.x.nd.t = t3 at *
            generalize zz.x.nd.n = n3 at *
            generalize zz.x.ks.length = un3 at *
            generalize yy.x.nd.k = k4 at *
            generalize yy.x.nd.t = t4 at *
            generalize yy.x.nd.n = n4 at *
            generalize yy.x.ks.length = un4 at *
            generalize eqA zz.x.nd.sh zz.x.nd.at' yy.x.nd.sh yy.x.nd.at' = Y at *
            go_wp2
            go_cut [10, 11] (fun sp sq V => Two6 wr sp sq (.int .i64 k3) (.string t3) (.int .i64 n3) (.slice so3 sn3 sc3) (.slice ao3 an3 ac3) (.slice uo3 un3 uc3) (.int .i64 k4) (.string t4) (.int .i64 n4) (.slice so4 sn4 sc4) (.slice ao4 an4 ac4) (.slice uo4 un4 uc4) V)
            case first =>
              refine wp_region_R (fun V => V.cell? ⟨G1, i * 8, none⟩ = some (.int .i64 k3) ∧ V.cell? ⟨G1, i * 8 + 1, none⟩ = some (.string t3) ∧ V.cell? ⟨G1, i * 8 + 2, none⟩ = some (.int .i64 n3) ∧ V.cell? ⟨G1, i * 8 + 3, none⟩ = some (.slice so3 sn3 sc3) ∧ V.cell? ⟨G1, i * 8 + 4, none⟩ = some (.slice ao3 an3 ac3) ∧ V.cell? ⟨G1, i * 8 + 5, none⟩ = some (.slice uo3 un3 uc3) ∧ V.cell? ⟨G2, i * 8, none⟩ = some (.int .i64 k4) ∧ V.cell? ⟨G2, i * 8 + 1, none⟩ = some (.string t4) ∧ V.cell? ⟨G2, i * 8 + 2, none⟩ = some (.int .i64 n4) ∧ V.cell? ⟨G2, i * 8 + 3, none⟩ = some (.slice so4 sn4 sc4) ∧ V.cell? ⟨G2, i * 8 + 4, none⟩ = some (.slice ao4 an4 ac4) ∧ V.cell? ⟨G2, i * 8 + 5, none⟩ = some (.slice uo4 un4 uc4)) (fun _ => true) (by kernel_rfl) ?_
              refine wpAnyR_take (i := 0) (v := .slice (some ⟨G1, 0, none⟩) LL ca) rfl (by kernel_rfl) (by kernel_rfl) (by kernel_rfl) (by kernel_rfl) (fun _ _ _ h => h) (Or.inl ⟨by rfl, fun V hV => ?_⟩) ?_ ?_
              · obtain ⟨g0, g1, g2, g3, g4, g5, g6, g7, g8, g9, g10, g11⟩ := hV
                go_simp
              · exact HS.out _ (Below.refl _ wr).drew
              conv => arg 9; simp [Act.put]
              refine wpAnyR_take (i := 1) (v := .int .i64 (i : Nat)) rfl (by kernel_rfl) (by kernel_rfl) (by kernel_rfl) (by kernel_rfl) (fun _ _ _ h => h) (Or.inl ⟨by rfl, fun V hV => ?_⟩) ?_ ?_
              · obtain ⟨g0, g1, g2, g3, g4, g5, g6, g7, g8, g9, g10, g11⟩ := hV
                go_simp
              · exact HS.out _ (Below.refl _ wr).drew
              conv => arg 9; simp [Act.put]
              refine wpAnyR_take (i := 2) (v := .pointer (some ⟨G1, i * 8, none⟩)) rfl (by kernel_rfl) (by kernel_rfl) (by kernel_rfl) (by kernel_rfl) (fun _ _ _ h => h) (Or.inl ⟨by rfl, fun V hV => ?_⟩) ?_ ?_
              · obtain ⟨g0, g1, g2, g3, g4, g5, g6, g7, g8, g9, g10, g11⟩ := hV
                go_simp
              · exact HS.out _ (Below.refl _ wr).drew
              conv => arg 9; simp [Act.put]
              refine wpAnyR_take (i := 3) (v := .pointer (some ⟨G1, i * 8, none⟩)) rfl (by kernel_rfl) (by kernel_rfl) (by kernel_rfl) (by kernel_rfl) (fun _ _ _ h => h) (Or.inl ⟨by rfl, fun V hV => ?_⟩) ?_ ?_
              · obtain ⟨g0, g1, g2, g3, g4, g5, g6, g7, g8, g9, g10, g11⟩ := hV
                go_simp
              · exact HS.out _ (Below.refl _ wr).drew
              conv => arg 9; simp [Act.put]
              refine wpAnyR_take (i := 4) (v := .agg #[.int .i64 k3, .string t3, .int .i64 n3, .slice so3 sn3 sc3, .slice ao3 an3 ac3, .slice uo3 un3 uc3]) rfl (by kernel_rfl) (by kernel_rfl) (by kernel_rfl) (by kernel_rfl) (fun _ _ _ h => h) (Or.inl ⟨by rfl, fun V hV => ?_⟩) ?_ ?_
              · obtain ⟨g0, g1, g2, g3, g4, g5, g6, g7, g8, g9, g10, g11⟩ := hV
                go_simp
              · exact HS.out _ (Below.refl _ wr).drew
              conv => arg 9; simp [Act.put]
              refine wpAnyR_take (i := 5) (v := .slice (some ⟨G2, 0, none⟩) LL cb) rfl (by kernel_rfl) (by kernel_rfl) (by kernel_rfl) (by kernel_rfl) (fun _ _ _ h => h) (Or.inl ⟨by rfl, fun V hV => ?_⟩) ?_ ?_
              · obtain ⟨g0, g1, g2, g3, g4, g5, g6, g7, g8, g9, g10, g11⟩ := hV
                go_simp
              · exact HS.out _ (Below.refl _ wr).drew
              conv => arg 9; simp [Act.put]
              refine wpAnyR_take (i := 6) (v := .int .i64 (i : Nat)) rfl (by kernel_rfl) (by kernel_rfl) (by kernel_rfl) (by kernel_rfl) (fun _ _ _ h => h) (Or.inl ⟨by rfl, fun V hV => ?_⟩) ?_ ?_
              · obtain ⟨g0, g1, g2, g3, g4, g5, g6, g7, g8, g9, g10, g11⟩ := hV
                go_simp
              · exact HS.out _ (Below.refl _ wr).drew
              conv => arg 9; simp [Act.put]
              refine wpAnyR_take (i := 7) (v := .pointer (some ⟨G2, i * 8, none⟩)) rfl (by kernel_rfl) (by kernel_rfl) (by kernel_rfl) (by kernel_rfl) (fun _ _ _ h => h) (Or.inl ⟨by rfl, fun V hV => ?_⟩) ?_ ?_
              · obtain ⟨g0, g1, g2, g3, g4, g5, g6, g7, g8, g9, g10, g11⟩ := hV
                go_simp
              · exact HS.out _ (Below.refl _ wr).drew
              conv => arg 9; simp [Act.put]
              refine wpAnyR_take (i := 8) (v := .pointer (some ⟨G2, i * 8, none⟩)) rfl (by kernel_rfl) (by kernel_rfl) (by kernel_rfl) (by kernel_rfl) (fun _ _ _ h => h) (Or.inl ⟨by rfl, fun V hV => ?_⟩) ?_ ?_
              · obtain ⟨g0, g1, g2, g3, g4, g5, g6, g7, g8, g9, g10, g11⟩ := hV
                go_simp
              · exact HS.out _ (Below.refl _ wr).drew
              conv => arg 9; simp [Act.put]
              refine wpAnyR_take (i := 9) (v := .agg #[.int .i64 k4, .string t4, .int .i64 n4, .slice so4 sn4 sc4, .slice ao4 an4 ac4, .slice uo4 un4 uc4]) rfl (by kernel_rfl) (by kernel_rfl) (by kernel_rfl) (by kernel_rfl) (fun _ _ _ h => h) (Or.inl ⟨by rfl, fun V hV => ?_⟩) ?_ ?_
              · obtain ⟨g0, g1, g2, g3, g4, g5, g6, g7, g8, g9, g10, g11⟩ := hV
                go_simp
              · exact HS.out _ (Below.refl _ wr).drew
              conv => arg 9; simp [Act.put]
              refine wpAnyR_two (i := 10) (j := 11) (by kernel_rfl) rfl rfl (fun K hK => ?_) (fun K hK => ?_)
              · go_simp
                have j1 : Below wr.heap.size wr (wr.alloc (.cells #[.int .i64 0, .string ⟨#[]⟩, .int .i64 0, .slice none 0 0, .slice none 0 0, .slice none 0 0] 31)).drew := (box_below wr (.cells #[.int .i64 0, .string ⟨#[]⟩, .int .i64 0, .slice none 0 0, .slice none 0 0, .slice none 0 0] 31)).drew
                have a1 : (wr.alloc (.cells #[.int .i64 0, .string ⟨#[]⟩, .int .i64 0, .slice none 0 0, .slice none 0 0, .slice none 0 0] 31)).drew.heap[wr.heap.size]? = some (.cells #[.int .i64 0, .string ⟨#[]⟩, .int .i64 0, .slice none 0 0, .slice none 0 0, .slice none 0 0] 31 (0, 0)) := allocNew wr (.cells #[.int .i64 0, .string ⟨#[]⟩, .int .i64 0, .slice none 0 0, .slice none 0 0, .slice none 0 0] 31)
                have HS1 : Hid ((wr.alloc (.cells #[.int .i64 0, .string ⟨#[]⟩, .int .i64 0, .slice none 0 0, .slice none 0 0, .slice none 0 0] 31)).drew.heap.size = wr.heap.size + 1) := World.size_alloc wr (.cells #[.int .i64 0, .string ⟨#[]⟩, .int .i64 0, .slice none 0 0, .slice none 0 0, .slice none 0 0] 31)
                refine hK _ _ ⟨fun _ => HS.out _ j1, ?_⟩
                clear hK
                (try (conv => arg 9; simp [Act.put]))
                generalize (wr.alloc (.cells #[.int .i64 0, .string ⟨#[]⟩, .int .i64 0, .slice none 0 0, .slice none 0 0, .slice none 0 0] 31)).drew = X1 at *
                refine wpAnyR_one (i := 11) (by kernel_rfl) rfl (fun K hK => ?_)
                go_simp
                have j2 := j1.trans ((box_below X1 (.cells #[.int .i64 0, .string ⟨#[]⟩, .int .i64 0, .slice none 0 0, .slice none 0 0, .slice none 0 0] 31)).mono j1.size)
                have s1 := HS1.out
                have a2 := ((box_below X1 (.cells #[.int .i64 0, .string ⟨#[]⟩, .int .i64 0, .slice none 0 0, .slice none 0 0, .slice none 0 0] 31)).block wr.heap.size (by omega)).trans a1
                have a3 := allocNew X1 (.cells #[.int .i64 0, .string ⟨#[]⟩, .int .i64 0, .slice none 0 0, .slice none 0 0, .slice none 0 0] 31)
                refine hK _ _ ⟨fun _ => HS.out _ j2, ?_⟩
                clear hK a1
                (try (conv => arg 9; simp [Act.put]))
                generalize X1.alloc (.cells #[.int .i64 0, .string ⟨#[]⟩, .int .i64 0, .slice none 0 0, .slice none 0 0, .slice none 0 0] 31) = X2 at *
                have hpq : wr.heap.size < X1.heap.size := by omega
                have hwp : wr.heap.size < X2.heap.size := (Array.getElem?_eq_some_iff.1 a2).1
                have hxp : X1.heap.size < X2.heap.size := (Array.getElem?_eq_some_iff.1 a3).1
                have HPW : Hid (wr.heap.size ≤ wr.heap.size) := (by omega : wr.heap.size ≤ wr.heap.size)
                have HQW : Hid (wr.heap.size ≤ X1.heap.size) := (by omega : wr.heap.size ≤ X1.heap.size)
                have hne : X1.heap.size ≠ wr.heap.size := by omega
                have hp2 : wr.heap.size < X2.heap.size := by omega
                have hq2 : X1.heap.size < X2.heap.size := by omega
                have hpa := a2
                have hqa := a3
                clear a2 a3 s1 hpq hwp hxp
                obtain ⟨P, hP⟩ : ∃ P, P = wr.heap.size := ⟨_, rfl⟩
                obtain ⟨QQ, hQ⟩ : ∃ QQ, QQ = X1.heap.size := ⟨_, rfl⟩
                rw [← hP] at hne hp2 hpa ⊢
                rw [← hQ] at hne hq2 hqa ⊢
                have HP : Hid (P = wr.heap.size) := hP
                have HQ : Hid (QQ = X1.heap.size) := hQ
                have hpw : wr.heap.size ≤ P := by rw [hP]; exact HPW.out
                have hqw : wr.heap.size ≤ QQ := by rw [hQ]; exact HQW.out
                clear hP hQ HPW HQW
                obtain ⟨⟨⟨a0, a1⟩, a2, ⟨a3, a4⟩, a5, ⟨a6, a7⟩, a8, ⟨a9, a10⟩, a11, ⟨a12, a13⟩, a14, ⟨a15, a16⟩, a17⟩, ⟨f0, f1, f2, f3, f4, f5⟩, gr⟩ := box6_store X2 P _ _ _ _ _ _ (.int .i64 k3) (.string t3) (.int .i64 n3) (.slice so3 sn3 sc3) (.slice ao3 an3 ac3) (.slice uo3 un3 uc3) _ hpa
                have gb := gr.block QQ hq2 (fun e => hne (Option.some.inj e))
                refine wpAnyR_one (i := 12) (by kernel_rfl) rfl (fun K hK => ?_)
                go_simp
                have j3 := below_of_grown j2 gr hpw
                have a3' := gb.trans hqa
                have s3 : P < (((((((X2.setCell ⟨P, 0, none⟩ (.int .i64 k3)).setCell ⟨P, 1, none⟩ (.string t3)).setCell ⟨P, 2, none⟩ (.int .i64 n3)).setCell ⟨P, 3, none⟩ (.slice so3 sn3 sc3)).setCell ⟨P, 4, none⟩ (.slice ao3 an3 ac3)).setCell ⟨P, 5, none⟩ (.slice uo3 un3 uc3))).heap.size := Nat.lt_of_lt_of_le hp2 gr.size
                refine hK _ _ ⟨fun _ => HS.out _ j3, ?_⟩
                clear hK a0 a1 a2 a3 a4 a5 a6 a7 a8 a9 a10 a11 a12 a13 a14 a15 a16 a17
                (try (conv => arg 9; simp [Act.put]))
                generalize ((((((X2.setCell ⟨P, 0, none⟩ (.int .i64 k3)).setCell ⟨P, 1, none⟩ (.string t3)).setCell ⟨P, 2, none⟩ (.int .i64 n3)).setCell ⟨P, 3, none⟩ (.slice so3 sn3 sc3)).setCell ⟨P, 4, none⟩ (.slice ao3 an3 ac3)).setCell ⟨P, 5, none⟩ (.slice uo3 un3 uc3)) = X3 at *
                clear gr gb hpa hqa j2
                obtain ⟨⟨⟨a0, a1⟩, a2, ⟨a3, a4⟩, a5, ⟨a6, a7⟩, a8, ⟨a9, a10⟩, a11, ⟨a12, a13⟩, a14, ⟨a15, a16⟩, a17⟩, ⟨d0, d1, d2, d3, d4, d5⟩, gr⟩ := box6_store X3 QQ _ _ _ _ _ _ (.int .i64 k4) (.string t4) (.int .i64 n4) (.slice so4 sn4 sc4) (.slice ao4 an4 ac4) (.slice uo4 un4 uc4) _ a3'
                have gp := gr.block P s3 (fun e => hne (Option.some.inj e).symm)
                refine wpAnyR_one (i := 13) (by kernel_rfl) rfl (fun K hK => ?_)
                go_simp
                have j4 := below_of_grown j3 gr hqw
                refine hK _ _ ⟨fun _ => HS.out _ j4, ?_⟩
                clear hK a0 a1 a2 a3 a4 a5 a6 a7 a8 a9 a10 a11 a12 a13 a14 a15 a16 a17
                (try (conv => arg 9; simp [Act.put]))
                generalize ((((((X3.setCell ⟨QQ, 0, none⟩ (.int .i64 k4)).setCell ⟨QQ, 1, none⟩ (.string t4)).setCell ⟨QQ, 2, none⟩ (.int .i64 n4)).setCell ⟨QQ, 3, none⟩ (.slice so4 sn4 sc4)).setCell ⟨QQ, 4, none⟩ (.slice ao4 an4 ac4)).setCell ⟨QQ, 5, none⟩ (.slice uo4 un4 uc4)) = X4 at *
                refine wpAnyR_done (by kernel_rfl) ?_ _
                go_wp2
                go_meet
                case rel =>
                  have cp : ∀ j, X4.cell? ⟨P, j, none⟩ = X3.cell? ⟨P, j, none⟩ := fun j => by simp only [World.cell?]; rw [gp]
                  exact ⟨P, QQ, rfl, rfl, ⟨(cp 0).trans f0, (cp 1).trans f1, (cp 2).trans f2, (cp 3).trans f3, (cp 4).trans f4, (cp 5).trans f5⟩, ⟨d0, d1, d2, d3, d4, d5⟩, j4⟩
              · go_simp
                have j1 : Below wr.heap.size wr (wr.alloc (.cells #[.int .i64 0, .string ⟨#[]⟩, .int .i64 0, .slice none 0 0, .slice none 0 0, .slice none 0 0] 31)).drew := (box_below wr (.cells #[.int .i64 0, .string ⟨#[]⟩, .int .i64 0, .slice none 0 0, .slice none 0 0, .slice none 0 0] 31)).drew
                have a1 : (wr.alloc (.cells #[.int .i64 0, .string ⟨#[]⟩, .int .i64 0, .slice none 0 0, .slice none 0 0, .slice none 0 0] 31)).drew.heap[wr.heap.size]? = some (.cells #[.int .i64 0, .string ⟨#[]⟩, .int .i64 0, .slice none 0 0, .slice none 0 0, .slice none 0 0] 31 (0, 0)) := allocNew wr (.cells #[.int .i64 0, .string ⟨#[]⟩, .int .i64 0, .slice none 0 0, .slice none 0 0, .slice none 0 0] 31)
                have HS1 : Hid ((wr.alloc (.cells #[.int .i64 0, .string ⟨#[]⟩, .int .i64 0, .slice none 0 0, .slice none 0 0, .slice none 0 0] 31)).drew.heap.size = wr.heap.size + 1) := World.size_alloc wr (.cells #[.int .i64 0, .string ⟨#[]⟩, .int .i64 0, .slice none 0 0, .slice none 0 0, .slice none 0 0] 31)
                refine hK _ _ ⟨fun _ => HS.out _ j1, ?_⟩
                clear hK
                (try (conv => arg 9; simp [Act.put]))
                generalize (wr.alloc (.cells #[.int .i64 0, .string ⟨#[]⟩, .int .i64 0, .slice none 0 0, .slice none 0 0, .slice none 0 0] 31)).drew = X1 at *
                refine wpAnyR_one (i := 10) (by kernel_rfl) rfl (fun K hK => ?_)
                go_simp
                have j2 := j1.trans ((box_below X1 (.cells #[.int .i64 0, .string ⟨#[]⟩, .int .i64 0, .slice none 0 0, .slice none 0 0, .slice none 0 0] 31)).mono j1.size)
                have s1 := HS1.out
                have a2 := ((box_below X1 (.cells #[.int .i64 0, .string ⟨#[]⟩, .int .i64 0, .slice none 0 0, .slice none 0 0, .slice none 0 0] 31)).block wr.heap.size (by omega)).trans a1
                have a3 := allocNew X1 (.cells #[.int .i64 0, .string ⟨#[]⟩, .int .i64 0, .slice none 0 0, .slice none 0 0, .slice none 0 0] 31)
                refine hK _ _ ⟨fun _ => HS.out _ j2, ?_⟩
                clear hK a1
                (try (conv => arg 9; simp [Act.put]))
                generalize X1.alloc (.cells #[.int .i64 0, .string ⟨#[]⟩, .int .i64 0, .slice none 0 0, .slice none 0 0, .slice none 0 0] 31) = X2 at *
                have hpq : wr.heap.size < X1.heap.size := by omega
                have hwp : wr.heap.size < X2.heap.size := (Array.getElem?_eq_some_iff.1 a2).1
                have hxp : X1.heap.size < X2.heap.size := (Array.getElem?_eq_some_iff.1 a3).1
                have HPW : Hid (wr.heap.size ≤ X1.heap.size) := (by omega : wr.heap.size ≤ X1.heap.size)
                have HQW : Hid (wr.heap.size ≤ wr.heap.size) := (by omega : wr.heap.size ≤ wr.heap.size)
                have hne : wr.heap.size ≠ X1.heap.size := by omega
                have hp2 : X1.heap.size < X2.heap.size := by omega
                have hq2 : wr.heap.size < X2.heap.size := by omega
                have hpa := a3
                have hqa := a2
                clear a2 a3 s1 hpq hwp hxp
                obtain ⟨P, hP⟩ : ∃ P, P = X1.heap.size := ⟨_, rfl⟩
                obtain ⟨QQ, hQ⟩ : ∃ QQ, QQ = wr.heap.size := ⟨_, rfl⟩
                rw [← hP] at hne hp2 hpa ⊢
                rw [← hQ] at hne hq2 hqa ⊢
                have HP : Hid (P = X1.heap.size) := hP
                have HQ : Hid (QQ = wr.heap.size) := hQ
                have hpw : wr.heap.size ≤ P := by rw [hP]; exact HPW.out
                have hqw : wr.heap.size ≤ QQ := by rw [hQ]; exact HQW.out
                clear hP hQ HPW HQW
                obtain ⟨⟨⟨a0, a1⟩, a2, ⟨a3, a4⟩, a5, ⟨a6, a7⟩, a8, ⟨a9, a10⟩, a11, ⟨a12, a13⟩, a14, ⟨a15, a16⟩, a17⟩, ⟨f0, f1, f2, f3, f4, f5⟩, gr⟩ := box6_store X2 P _ _ _ _ _ _ (.int .i64 k3) (.string t3) (.int .i64 n3) (.slice so3 sn3 sc3) (.slice ao3 an3 ac3) (.slice uo3 un3 uc3) _ hpa
                have gb := gr.block QQ hq2 (fun e => hne (Option.some.inj e))
                refine wpAnyR_one (i := 12) (by kernel_rfl) rfl (fun K hK => ?_)
                go_simp
                have j3 := below_of_grown j2 gr hpw
                have a3' := gb.trans hqa
                have s3 : P < (((((((X2.setCell ⟨P, 0, none⟩ (.int .i64 k3)).setCell ⟨P, 1, none⟩ (.string t3)).setCell ⟨P, 2, none⟩ (.int .i64 n3)).setCell ⟨P, 3, none⟩ (.slice so3 sn3 sc3)).setCell ⟨P, 4, none⟩ (.slice ao3 an3 ac3)).setCell ⟨P, 5, none⟩ (.slice uo3 un3 uc3))).heap.size := Nat.lt_of_lt_of_le hp2 gr.size
                refine hK _ _ ⟨fun _ => HS.out _ j3, ?_⟩
                clear hK a0 a1 a2 a3 a4 a5 a6 a7 a8 a9 a10 a11 a12 a13 a14 a15 a16 a17
                (try (conv => arg 9; simp [Act.put]))
                generalize ((((((X2.setCell ⟨P, 0, none⟩ (.int .i64 k3)).setCell ⟨P, 1, none⟩ (.string t3)).setCell ⟨P, 2, none⟩ (.int .i64 n3)).setCell ⟨P, 3, none⟩ (.slice so3 sn3 sc3)).setCell ⟨P, 4, none⟩ (.slice ao3 an3 ac3)).setCell ⟨P, 5, none⟩ (.slice uo3 un3 uc3)) = X3 at *
                clear gr gb hpa hqa j2
                obtain ⟨⟨⟨a0, a1⟩, a2, ⟨a3, a4⟩, a5, ⟨a6, a7⟩, a8, ⟨a9, a10⟩, a11, ⟨a12, a13⟩, a14, ⟨a15, a16⟩, a17⟩, ⟨d0, d1, d2, d3, d4, d5⟩, gr⟩ := box6_store X3 QQ _ _ _ _ _ _ (.int .i64 k4) (.string t4) (.int .i64 n4) (.slice so4 sn4 sc4) (.slice ao4 an4 ac4) (.slice uo4 un4 uc4) _ a3'
                have gp := gr.block P s3 (fun e => hne (Option.some.inj e).symm)
                refine wpAnyR_one (i := 13) (by kernel_rfl) rfl (fun K hK => ?_)
                go_simp
                have j4 := below_of_grown j3 gr hqw
                refine hK _ _ ⟨fun _ => HS.out _ j4, ?_⟩
                clear hK a0 a1 a2 a3 a4 a5 a6 a7 a8 a9 a10 a11 a12 a13 a14 a15 a16 a17
                (try (conv => arg 9; simp [Act.put]))
                generalize ((((((X3.setCell ⟨QQ, 0, none⟩ (.int .i64 k4)).setCell ⟨QQ, 1, none⟩ (.string t4)).setCell ⟨QQ, 2, none⟩ (.int .i64 n4)).setCell ⟨QQ, 3, none⟩ (.slice so4 sn4 sc4)).setCell ⟨QQ, 4, none⟩ (.slice ao4 an4 ac4)).setCell ⟨QQ, 5, none⟩ (.slice uo4 un4 uc4)) = X4 at *
                refine wpAnyR_done (by kernel_rfl) ?_ _
                go_wp2
                go_meet
                case rel =>
                  have cp : ∀ j, X4.cell? ⟨P, j, none⟩ = X3.cell? ⟨P, j, none⟩ := fun j => by simp only [World.cell?]; rw [gp]
                  exact ⟨P, QQ, rfl, rfl, ⟨(cp 0).trans f0, (cp 1).trans f1, (cp 2).trans f2, (cp 3).trans f3, (cp 4).trans f4, (cp 5).trans f5⟩, ⟨d0, d1, d2, d3, d4, d5⟩, j4⟩
            case rest =>
              obtain ⟨p, q, rfl, rfl, ⟨f0, f1, f2, f3, f4, f5⟩, ⟨d0, d1, d2, d3, d4, d5⟩, bc⟩ := hcut
              have BC := BW.trans (bc.mono BW.size)
              have HNO : Hid (cmpZ zz yy = false → R = false) := fun hc => by
                cases R
                · rfl
                · exact absurd ((HEH.out.2 rfl).2 i zz yy HZ.out HY.out) (by rw [hc]; decide)
              have HBC : Hid (Below w2.heap.size w2 wc) := BV.trans (bc.mono BV.size)
              have hsm := hsm wc BC
              have HC0 := HC.out
              rw [decE, decE, decN] at HC0
              clear HC HS HB12 HNA HNB HLl HLm
              cases e1 : (k3 == k4)
              · rw [e1] at HC0
                have HRF : Hid (R = false) := HNO.out (by rw [HC0]; rfl)
                have g1 : ¬ k3 = k4 := by simpa using e1
                clear HC0 hsm
                go_wp2
                go_ret
                exact ⟨ret_bool HRF.out.symm, BC⟩
              rw [e1, Bool.true_and] at HC0
              obtain rfl : k3 = k4 := by simpa using e1
              cases e2 : (t3.toList == t4.toList)
              · rw [e2] at HC0
                have HRF : Hid (R = false) := HNO.out (by rw [HC0]; rfl)
                have g2 : ¬ t3.toList = t4.toList := by simpa using e2
                clear HC0 hsm
                go_wp2
                go_ret
                exact ⟨ret_bool HRF.out.symm, BC⟩
              rw [e2, Bool.true_and] at HC0
              have g2 : t3.toList = t4.toList := by simpa using e2
              cases e3 : (n3 == n4)
              · rw [e3] at HC0
                have HRF : Hid (R = false) := HNO.out (by rw [HC0]; rfl)
                have g3 : ¬ n3 = n4 := by simpa using e3
                clear HC0 hsm
                go_wp2
                go_ret
                exact ⟨ret_bool HRF.out.symm, BC⟩
              rw [e3, Bool.true_and] at HC0
              obtain rfl : n3 = n4 := by simpa using e3
              cases e4 : ((un3 : Int) == (un4 : Int))
              · rw [e4] at HC0
                have HRF : Hid (R = false) := HNO.out (by rw [HC0]; rfl)
                have g4 : ¬ ((un3 : Int) = (un4 : Int)) := by simpa using e4
                clear HC0 hsm
                go_wp2
                go_ret
                exact ⟨ret_bool HRF.out.symm, BC⟩
              rw [e4, Bool.true_and] at HC0
              obtain rfl : un3 = un4 := by have := eq_of_beq e4; omega
              cases Y
              · skip
                have HRF : Hid (R = false) := HNO.out HC0
                clear HC0
                go_wp2_with (go_at_call 51; (with_reducible refine hsm.mono ?_); rintro e w6 ⟨rfl, b6⟩)
                go_ret
                exact ⟨ret_bool HRF.out.symm, BC.trans (b6.mono BC.size)⟩
              · skip
                have HCT : Hid (cmpZ zz yy = true) := HC0
                clear HC0
                go_wp2_with (go_at_call 51; (with_reducible refine hsm.mono ?_); rintro e w6 ⟨rfl, b6⟩)
                go_roundw
                case rel => exact ⟨i + 1, by omega, by go_num, fun j hj z y hz hy => by
                  by_cases e : j = i
                  · subst e
                    rw [HZ.out] at hz
                    rw [HY.out] at hy
                    rw [← Option.some.inj hz, ← Option.some.inj hy]; exact HCT.out
                  · exact HJ.out j (by omega) z y hz hy, HBC.out.trans (b6.mono HBC.out.size)⟩
                case measure => simp [intOf]; omega
          · obtain rfl : i = LL := by omega
            have t3 : decide ((i : Int) < (i : Int)) = false := by simp
            have HR : Hid (R = true) := HEH.out.1 ⟨HLl.out.symm.trans HLm.out, fun j z y hz hy => HJ.out j (by rw [HLl.out]; exact (List.getElem?_eq_some_iff.1 hz).1) z y hz hy⟩
            go_wp2
            go_ret
            exact ⟨ret_bool HR.out.symm, BW⟩
      · have t7 : ((l.length : Int) == (m.length : Int)) = false := by simp; omega
        have hR : Hid (R = false) := by
          cases R
          · rfl
          · exact absurd (HE.2 rfl).1 hlm
        generalize l.length = LA at *
        generalize m.length = LB at *
        clear hlm HE hl4
        go_enter Tryz.func31, Tryz.ntmps31
        go_wp2_with (first
          | (go_at_call 49; (with_reducible refine (hr2 _ bb).mono ?_); rintro e w2 ⟨ob, cb, valb, rfl, NB⟩; have bb2 := bb.trans (NB.bel.mono bb.size); clear NB)
          | (go_at_call 49; (with_reducible refine hr1.mono ?_); rintro e w1 ⟨oa, ca, vala, rfl, NA⟩; have bb := kk.trans (NA.bel.mono kk.size); obtain ⟨q0, q1, q2, q3, q4, q5⟩ := box6 ((NA.bel.block (w.heap.size + 1) (by simp)).trans R1); clear NA))
        go_ret
        exact ⟨ret_bool hR.out.symm, bb2⟩
end Go.Proofs.YtiahilelcppfgaaGreat
