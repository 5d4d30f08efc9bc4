
/- The statement AtomEach, walked: no atom is refused. -/

import Derived.Test.YtjllmfahmlfljaaU2

namespace Go.Proofs.Ytjllmfahmlfljaa

open Go.RowKit Go.Deep

set_option linter.unusedVariables false

set_option maxHeartbeats 40000000 in
set_option maxRecDepth 20000 in
theorem each_ok (op : Int) (so ao to bo : Option Addr) (sn sc an ac tn tc bn bc : Nat) (sx ax sy ay : List Int) (w : World) (h1 : Rd w so sn sx) (h2 : Rd w ao an ax) (h3 : Rd w to tn sy) (h4 : Rd w bo bn ay) (hs : Sl so sn sc) (ht : Sl to tn tc) (m1 : mayA sy ay = 0) (c1 : hasB op 1 = true) (hR : fe (ay.map (Nm.mE op)) = 0) :
    Calls Try.prog 7 #[.int .i64 op, .agg #[.slice so sn sc, .slice ao an ac], .agg #[.slice to tn tc, .slice bo bn bc]] w fun e w' => e = .returned (.bool true) ∧ Below w.heap.size w w' := by
  have I0 := lg_start w so sn sc ao an ac to tn tc bo bn bc sx ax sy ay h1 h2 h3 h4
  have hm2 := fun W (x : Rd W to tn sy) (y : Rd W bo bn ay) => mayA_any to bo tn tc bn bc sy ay W x y
  have hmx := fun W (x : Rd W so sn sx) (y : Rd W ao an ax) => mayA_any so ao sn sc an ac sx ax W x y
  have hh1 := fun W => has_any op 1 W
  have hh2 := fun W => has_any op 2 W
  have hmo := fun W (x : Rd W to tn sy) (y : Rd W bo bn ay) => monad_any op to bo tn tc bn bc sy ay W x y
  have hd := fun W (x : Rd W so sn sx) (y : Rd W ao an ax) (z : Rd W to tn sy) (u : Rd W bo bn ay) => dyad_any op so ao to bo sn sc an ac tn tc bn bc sx ax sy ay W x y z u hs ht
  have hes := fun W (x : Rd W so sn sx) (z : Rd W to tn sy) => eq_any so none to none sn sc 0 0 tn tc 0 0 sx [] sy [] W x (Rd.nil W) z (Rd.nil W)
  have HM1 : Hid (mayA sy ay = 0) := m1
  have E2 : Hid (ax.length = an) := h2.len
  have E4 : Hid (ay.length = bn) := h4.len
  have NX : Hid (∀ k, k < an → Nm.inr (nth ax k) = true) := fun k hk => by rw [Nm.inr_iff]; exact h2.num k hk
  have NY : Hid (∀ k, k < bn → Nm.inr (nth ay k) = true) := fun k hk => by rw [Nm.inr_iff]; exact h4.num k hk
  have x2 := h2.room
  have x4 := h4.room
  rw [m1] at hm2
  have hl : lck (Nm.mE op 0) = false := by
    unfold hasB at c1
    rw [if_pos rfl] at c1
    simpa using c1
  rw [c1] at hh1
  have hE : moE op sy ay = fe (ay.map (Nm.mE op)) := by unfold moE; rw [if_neg (by omega), if_neg (by rw [hl]; decide)]
  unfold moS moA at hmo
  rw [hE] at hmo
  rw [map_range (f := Nm.mE op) ay, E4.out] at hR hmo
  rw [map_range (f := Nm.mN op) ay, E4.out] at hmo
  obtain ⟨F1, HF1⟩ : ∃ F1, F1 = fun i => Nm.mN op (nth ay i) := ⟨_, rfl⟩
  obtain ⟨G1, HG1⟩ : ∃ G1, G1 = fun i => Nm.mE op (nth ay i) := ⟨_, rfl⟩
  rw [← HF1, ← HG1] at hmo
  rw [← HG1] at hR
  have hn1 : ∀ k, k < bn → ∀ V, Calls Try.prog 33 #[.int .i64 op, .int .i64 (nth ay k)] V fun e w' => e = .returned (.tuple #[.int .i64 (F1 k), .int .i64 (G1 k)]) ∧ ∃ n, w' = V.drewN n := by
    intro k hk V
    rw [HF1, HG1]
    exact Nm.monad_any _ _ (NY.out k hk) V
  have hb1 : ∀ k, k < bn → -9223372036854775808 ≤ F1 k ∧ F1 k ≤ 9223372036854775807 := by
    intro k hk
    rw [HF1]
    exact Nm.inr_iff.1 (Nm.inr_mN _ _ (NY.out k hk))
  have HR1 : Hid (fe ((List.range bn).map G1) = 0) := hR
  rw [hR, onOk_ok rfl, onOk_ok rfl] at hmo
  clear m1 c1 hl hE h1 h2 h3 h4 hR HF1 HG1
  go_enter Try.func7, Try.ntmps7
  go_wp2_with (first | (go_at_call 29; refine (begun5_any _).mono ?_; rintro e W1 ⟨rfl, k1⟩; have I1 := I0.below k1; have I1' := I1; obtain ⟨p0, p1, p2, p3, _, _, _, _, _⟩ := I1') | (go_at_call 30; (with_reducible refine (hm2 _ I1.t I1.b).mono ?_); rintro e W2 ⟨rfl, k2⟩; have I2 := I1.below k2; have I2' := I2; obtain ⟨q0, q1, q2, q3, _, _, _, _, _⟩ := I2') | (go_at_call 31; refine (hmo _ I2.t I2.b).mono ?_; rintro e W3 ⟨o1, n1, c1, o2, n2, c2, rfl, g1, g2, k3⟩; have I3 := (I2.below k3).below (box_below W3 (.cells #[.slice o1 n1 c1, .slice o2 n2 c2] 25))) | (go_at_call 32; (with_reducible refine (hh1 _).mono ?_); rintro e W4 ⟨rfl, k4⟩; have I4 := I3.below k4; have I4' := I4; obtain ⟨r0, r1, r2, r3, _, _, _, _, _⟩ := I4'))
  have ba := (k4.block W3.heap.size (by simp)).trans (allocNew W3 (.cells #[.slice o1 n1 c1, .slice o2 n2 c2] 25))
  have r5 := (g1.rd.below (box_below W3 (.cells #[.slice o1 n1 c1, .slice o2 n2 c2] 25)) (Nat.le_refl _)).below k4 (Nat.le_refl _)
  have r6 := (g2.rd.below (box_below W3 (.cells #[.slice o1 n1 c1, .slice o2 n2 c2] 25)) (Nat.le_refl _)).below k4 (Nat.le_refl _)
  have lt4 : W3.heap.size < W4.heap.size := by have := k4.size; simp at this; omega
  have St := Wt.start W4 to tn tc F1 G1
  clear hh1 hm2 hmo I0 p0 p1 p2 p3 q0 q1 q2 q3 r0 r1 r2 r3
  go_loopw [12, 13] (fun f i V => ∃ k : Nat, k ≤ bn ∧ i = .int .i64 (k : Nat) ∧ f = .int .i64 (gK G1 k) ∧ Wt W4 V to tn tc k F1 G1) (fun _ i _ => bn - (intOf i).toNat)
  case atStart => exact ⟨0, Nat.zero_le _, rfl, rfl, St⟩
  case round =>
    obtain ⟨k, hk, rfl, rfl, L0⟩ := hrel
    clear St
    have J0 := I4.below L0.bel
    have J0' := J0
    obtain ⟨u0, u1, u2, u3, _, _, _, _, _⟩ := J0'
    have z := gK_all HR1.out hk
    by_cases hlt : k < bn
    · have bd := hb1 k hlt
      have hn := hn1 k hlt
      have t1 : decide ((k : Int) < (bn : Int)) = true := by simp; omega
      have b3 : (k : Int) < (bn : Int) := by omega
      have wk : IntKind.i64.wrap ((k : Int) + 1) = (k : Int) + 1 := wrapIn _ (by omega)
      obtain ⟨yb, yoff, rfl, hyb, hyc⟩ := J0.b.cells (by omega)
      have cy := hyc k hlt
      clear hyc
      rw [z]
      go_wp2_with (first
        | (go_at_call 33; (with_reducible refine (hn _).mono ?_); rintro e V3 ⟨rfl, n, hV3⟩; have L3 := L0.below (below_drewN (Below.refl _ _) n); rw [← hV3] at L3; clear hV3; obtain ⟨qo, qc, hb3, hf3⟩ := L3.row; have lt3 : W4.heap.size < V3.heap.size := (Array.getElem?_eq_some_iff.1 hb3).1; obtain ⟨y0, y1, y2, y3⟩ := box2 hb3; have f4 := hf3.below (box_below V3 (.cells #[.int .i64 (F1 k)] 2)) (Nat.le_refl _); have lit := ft_new 2 V3 [F1 k] (by simp) (num1 bd.1 bd.2))
        | (at_builtin; refine wpList_joinT tyL rfl _ _ rfl (W4.heap.size + 1) _ _ _ _ _ _ _ _ rfl rfl f4 lit.rd lit.sl (by omega) (by simp; omega) ?_; intro co cc V5 f5 k5; have hb5 := (k5.block W4.heap.size (Nat.lt_succ_self _)).trans (((box_below V3 (.cells #[.int .i64 (F1 k)] 2)).block W4.heap.size lt3).trans hb3); obtain ⟨x0, x1, x2, x3⟩ := box2 hb5))
      go_roundw
      case rel => exact ⟨k + 1, by omega, by go_num, rfl, Wt.step ((btw L3.bel (box_below V3 _) L3.bel.size).trans (k5.mono (Nat.le_succ _))) hb5 f5 L3.err z⟩
      case measure => simp [intOf]; omega
    · obtain rfl : bn = k := by omega
      have t1 : decide ((bn : Int) < (bn : Int)) = false := by simp
      obtain ⟨qo, qc, hb3, hf3⟩ := L0.row
      obtain ⟨y0, y1, y2, y3⟩ := box2 hb3
      obtain ⟨v0, v1, _, _⟩ := box2 ((L0.bel.block W3.heap.size lt4).trans ba)
      rw [z]
      go_wp2_with (go_at_call 34; (with_reducible refine (eq_gen _ _ _ _ _ _ _ _ _ _ _ _ _ _ _ (r5.below L0.bel (Nat.le_refl _)) (r6.below L0.bel (Nat.le_refl _)) J0.t hf3.rd).mono ?_); rintro e V6 ⟨rfl, k6⟩)
      have JE := J0.below k6
      clear y0 y1 y2 y3 v0 v1 u0 u1 u2 u3 I1 I2 I3
      have JJ := JE
      have JJ' := JJ
      obtain ⟨a0, a1, a2, a3, _, _, _, _, _⟩ := JJ'
      cases c2 : hasB op 2
      · rw [c2] at hh2
        clear c2
        go_wp2_with (go_at_call 32; (with_reducible refine (hh2 _).mono ?_); rintro e A1 ⟨rfl, j1⟩; have J1 := JJ.below j1; have J1' := J1; obtain ⟨b0, b1, b2, b3, _, _, _, _, _⟩ := J1')
        go_ret
        exact ⟨rfl, J1.bel⟩
      · rw [c2] at hh2
        by_cases m0 : mayA sx ax = 0
        · rw [m0] at hmx
          by_cases hxy : sx = sy
          · have HM0 : Hid (mayA sx ax = 0) := m0
            have heq : eqA sx [] sy [] = true := by rw [hxy]; exact eqA_refl _ _
            rw [heq] at hes
            have hl2 : lck (Nm.dE op 0 0) = false := by
              unfold hasB at c2
              rw [if_neg (by decide), if_pos rfl] at c2
              simpa using c2
            obtain ⟨y1, y2, y3, y4, y5⟩ := each_facts (op := op) hxy HM0.out HM1.out
            have hdE : ddE op sx ax sy ay = fe (dyR op sx ax sy ay) := by
              unfold ddE
              rw [if_neg (by rw [HM0.out, HM1.out]; simp), if_neg (by rw [hl2]; decide), if_pos y2]
            unfold ddS ddA at hd
            rw [hdE, y4, y5, y3, E4.out] at hd
            obtain ⟨F2, HF2⟩ : ∃ F2, F2 = fun i => Nm.dN op (nth ax i) (nth ay i) := ⟨_, rfl⟩
            obtain ⟨G2, HG2⟩ : ∃ G2, G2 = fun i => Nm.dE op (nth ax i) (nth ay i) := ⟨_, rfl⟩
            rw [← HF2, ← HG2] at hd
            have hn2 : ∀ k, k < bn → ∀ V, Calls Try.prog 36 #[.int .i64 op, .int .i64 (nth ax k), .int .i64 (nth ay k)] V fun e w' => e = .returned (.tuple #[.int .i64 (F2 k), .int .i64 (G2 k)]) ∧ ∃ n, w' = V.drewN n := by
              intro k hk V
              rw [HF2, HG2]
              exact Nm.dyad_any _ _ _ (NX.out k (by rw [← E2.out, y1, E4.out]; exact hk)) (NY.out k hk) V
            have hb2 : ∀ k, k < bn → -9223372036854775808 ≤ F2 k ∧ F2 k ≤ 9223372036854775807 := by
              intro k hk
              rw [HF2]
              exact Nm.inr_iff.1 (Nm.inr_dN _ _ _ (NX.out k (by rw [← E2.out, y1, E4.out]; exact hk)) (NY.out k hk))
            have HAN : Hid (an = bn) := by show _ = _; rw [← E2.out, y1, E4.out]
            clear HF2 HG2 hdE y1 y2 y3 y4 y5 hl2 heq hxy m0 c2
            by_cases hR2 : fe ((List.range bn).map G2) = 0
            · have HR2 : Hid (fe ((List.range bn).map G2) = 0) := hR2
              rw [hR2, onOk_ok rfl, onOk_ok rfl] at hd
              clear hR2
              go_wp2_with (first | (go_at_call 32; (with_reducible refine (hh2 _).mono ?_); rintro e A1 ⟨rfl, j1⟩; have J1 := JJ.below j1; have J1' := J1; obtain ⟨b0, b1, b2, b3, _, _, _, _, _⟩ := J1') | (go_at_call 30; (with_reducible refine (hmx _ J1.s J1.a).mono ?_); rintro e A2 ⟨rfl, j2⟩; have J2 := J1.below j2; have J2' := J2; obtain ⟨d0, d1, d2, d3, _, _, _, _, _⟩ := J2') | (go_at_call 34; (with_reducible refine (hes _ J2.s J2.t).mono ?_); rintro e A3 ⟨rfl, j3⟩; have J3 := J2.below j3; have J3' := J3; obtain ⟨e0, e1, e2, e3, _, _, _, _, _⟩ := J3') | (go_at_call 35; (with_reducible refine (hd _ J3.s J3.a J3.t J3.b).mono ?_); rintro e A4 ⟨o5, n5, c5, o6, n6, c6, rfl, g5, g6, j4⟩; have J4 := (J3.below j4).below (box_below A4 (.cells #[.slice o5 n5 c5, .slice o6 n6 c6] 25)); have J4' := J4; obtain ⟨f0, f1, f2, f3, _, _, _, _, _⟩ := J4'))
              have bb := allocNew A4 (.cells #[.slice o5 n5 c5, .slice o6 n6 c6] 25)
              have q5 := g5.rd.below (box_below A4 (.cells #[.slice o5 n5 c5, .slice o6 n6 c6] 25)) (Nat.le_refl _)
              have q6 := g6.rd.below (box_below A4 (.cells #[.slice o5 n5 c5, .slice o6 n6 c6] 25)) (Nat.le_refl _)
              have s5 : (A4.alloc (.cells #[.slice o5 n5 c5, .slice o6 n6 c6] 25)).heap.size = A4.heap.size + 1 := by simp
              obtain ⟨A5, hA5⟩ : ∃ A5, A4.alloc (.cells #[.slice o5 n5 c5, .slice o6 n6 c6] 25) = A5 := ⟨_, rfl⟩
              rw [hA5] at bb q5 q6 s5 J4 ⊢
              have lt5 : A4.heap.size < A5.heap.size := by omega
              have lx : w.heap.size < A5.heap.size := World.block_lt_of_cell? A5 _ J4.c0
              have ly : w.heap.size + 1 < A5.heap.size := World.block_lt_of_cell? A5 _ J4.d0
              have St := Wt.start A5 to tn tc F2 G2
              rw [← s5]
              clear s5
              (try clear hm2)
              (try clear hmo)
              (try clear hh1)
              clear hA5 hd hes hmx hh2 f0 f1 f2 f3 e0 e1 e2 e3 d0 d1 d2 d3 b0 b1 b2 b3 a0 a1 a2 a3
              go_loopw [19, 20] (fun f i V => ∃ k : Nat, k ≤ bn ∧ i = .int .i64 (k : Nat) ∧ f = .int .i64 (gK G2 k) ∧ Wt A5 V to tn tc k F2 G2) (fun _ i _ => bn - (intOf i).toNat)
              case atStart => exact ⟨0, Nat.zero_le _, rfl, rfl, St⟩
              case round =>
                obtain ⟨k, hk, rfl, rfl, L0⟩ := hrel
                clear St
                have J5 := J4.below L0.bel
                have J5' := J5
                obtain ⟨u0, u1, u2, u3, _, _, _, _, _⟩ := J5'
                have z := gK_all HR2.out hk
                by_cases hlt : k < bn
                · have bd := hb2 k hlt
                  have hn := hn2 k hlt
                  have t1 : decide ((k : Int) < (bn : Int)) = true := by simp; omega
                  have b3 : (k : Int) < (bn : Int) := by omega
                  have b4 : (k : Int) < (an : Int) := by have := HAN.out; omega
                  have wk : IntKind.i64.wrap ((k : Int) + 1) = (k : Int) + 1 := wrapIn _ (by omega)
                  obtain ⟨xb, xoff, rfl, hxb, hxc⟩ := J4.a.cells (by have := HAN.out; omega)
                  obtain ⟨yb, yoff, rfl, hyb, hyc⟩ := J4.b.cells (by omega)
                  have cx := hxc k (by have := HAN.out; omega)
                  have cy := hyc k hlt
                  clear hxc hyc
                  have al : ∀ V, Wt A5 V to tn tc k F2 G2 → V.cell? ⟨w.heap.size, 1, none⟩ = some (.slice (some ⟨xb, xoff, none⟩) an ac) ∧ V.cell? ⟨w.heap.size + 1, 1, none⟩ = some (.slice (some ⟨yb, yoff, none⟩) bn bc) ∧ V.cell? ⟨xb, xoff + k, none⟩ = some (.int .i64 (nth ax k)) ∧ V.cell? ⟨yb, yoff + k, none⟩ = some (.int .i64 (nth ay k)) ∧ Wt A5 V to tn tc k F2 G2 :=
                    fun V r => ⟨(r.bel.cell (p := ⟨w.heap.size, 1, none⟩) lx).trans J4.c1, (r.bel.cell (p := ⟨w.heap.size + 1, 1, none⟩) ly).trans J4.d1, (r.bel.cell (p := ⟨xb, xoff + k, none⟩) hxb).trans cx, (r.bel.cell (p := ⟨yb, yoff + k, none⟩) hyb).trans cy, r⟩
                  rw [z]
                  go_wp2
                  go_region_held3 (fun V => V.cell? ⟨w.heap.size, 1, none⟩ = some (.slice (some ⟨xb, xoff, none⟩) an ac) ∧ V.cell? ⟨w.heap.size + 1, 1, none⟩ = some (.slice (some ⟨yb, yoff, none⟩) bn bc) ∧ V.cell? ⟨xb, xoff + k, none⟩ = some (.int .i64 (nth ax k)) ∧ V.cell? ⟨yb, yoff + k, none⟩ = some (.int .i64 (nth ay k)) ∧ Wt A5 V to tn tc k F2 G2) (first | exact al _ (by assumption) | exact al _ ((by assumption : Wt _ _ _ _ _ _ _ _).below (Below.refl _ _).drew))
                    (first | (go_at_call 36; have HS := (‹_ ∧ _ ∧ _ ∧ _ ∧ Wt A5 _ to tn tc k F2 G2›).2.2.2.2; (with_reducible refine (hn _).mono ?_); rintro e V3 ⟨rfl, n, hV3⟩; have L3 := HS.below (below_drewN (Below.refl _ _) n); rw [← hV3] at L3; clear hV3))
                  obtain ⟨qo, qc, hb3, hf3⟩ := L3.row; have lt3 : A5.heap.size < V3.heap.size := (Array.getElem?_eq_some_iff.1 hb3).1; obtain ⟨y0, y1, y2, y3⟩ := box2 hb3; have f4 := hf3.below (box_below V3 (.cells #[.int .i64 (F2 k)] 2)) (Nat.le_refl _); have lit := ft_new 2 V3 [F2 k] (by simp) (num1 bd.1 bd.2)
                  go_wp2_with (at_builtin; refine wpList_joinT tyL rfl _ _ rfl (A5.heap.size + 1) _ _ _ _ _ _ _ _ rfl rfl f4 lit.rd lit.sl (by omega) (by simp; omega) ?_; intro co cc V5 f5 k5; have hb5 := (k5.block A5.heap.size (Nat.lt_succ_self _)).trans (((box_below V3 (.cells #[.int .i64 (F2 k)] 2)).block A5.heap.size lt3).trans hb3); obtain ⟨x0, x1, x2, x3⟩ := box2 hb5)
                  go_roundw
                  case rel => exact ⟨k + 1, by omega, by go_num, rfl, Wt.step ((btw L3.bel (box_below V3 _) L3.bel.size).trans (k5.mono (Nat.le_succ _))) hb5 f5 L3.err z⟩
                  case measure => simp [intOf]; omega
                · obtain rfl : bn = k := by omega
                  have t1 : decide ((bn : Int) < (bn : Int)) = false := by simp
                  obtain ⟨qo, qc, hb3, hf3⟩ := L0.row
                  obtain ⟨y0, y1, y2, y3⟩ := box2 hb3
                  obtain ⟨v0, v1, _, _⟩ := box2 ((L0.bel.block A4.heap.size lt5).trans bb)
                  rw [z]
                  go_wp2_with (go_at_call 34; (with_reducible refine (eq_gen _ _ _ _ _ _ _ _ _ _ _ _ _ _ _ (q5.below L0.bel (Nat.le_refl _)) (q6.below L0.bel (Nat.le_refl _)) J5.t hf3.rd).mono ?_); rintro e V6 ⟨rfl, k6⟩)
                  go_ret
                  exact ⟨rfl, btw J5.bel k6 J5.bel.size⟩
            · have HR2 : Hid (fe ((List.range bn).map G2) ≠ 0) := hR2
              rw [onOk_no hR2, onOk_no hR2] at hd
              obtain ⟨E2', hE2'⟩ : ∃ E, E = fe ((List.range bn).map G2) := ⟨_, rfl⟩
              rw [← hE2'] at hd
              have HE2 : Hid (E2' = fe ((List.range bn).map G2)) := hE2'
              clear hR2 hE2'
              go_wp2_with (first | (go_at_call 32; (with_reducible refine (hh2 _).mono ?_); rintro e A1 ⟨rfl, j1⟩; have J1 := JJ.below j1; have J1' := J1; obtain ⟨b0, b1, b2, b3, _, _, _, _, _⟩ := J1') | (go_at_call 30; (with_reducible refine (hmx _ J1.s J1.a).mono ?_); rintro e A2 ⟨rfl, j2⟩; have J2 := J1.below j2; have J2' := J2; obtain ⟨d0, d1, d2, d3, _, _, _, _, _⟩ := J2') | (go_at_call 34; (with_reducible refine (hes _ J2.s J2.t).mono ?_); rintro e A3 ⟨rfl, j3⟩; have J3 := J2.below j3; have J3' := J3; obtain ⟨e0, e1, e2, e3, _, _, _, _, _⟩ := J3') | (go_at_call 35; (with_reducible refine (hd _ J3.s J3.a J3.t J3.b).mono ?_); rintro e A4 ⟨o5, n5, c5, o6, n6, c6, rfl, g5, g6, j4⟩; have J4 := (J3.below j4).below (box_below A4 (.cells #[.slice o5 n5 c5, .slice o6 n6 c6] 25)); have J4' := J4; obtain ⟨f0, f1, f2, f3, _, _, _, _, _⟩ := J4'))
              have bb := allocNew A4 (.cells #[.slice o5 n5 c5, .slice o6 n6 c6] 25)
              have q5 := g5.rd.below (box_below A4 (.cells #[.slice o5 n5 c5, .slice o6 n6 c6] 25)) (Nat.le_refl _)
              have q6 := g6.rd.below (box_below A4 (.cells #[.slice o5 n5 c5, .slice o6 n6 c6] 25)) (Nat.le_refl _)
              have s5 : (A4.alloc (.cells #[.slice o5 n5 c5, .slice o6 n6 c6] 25)).heap.size = A4.heap.size + 1 := by simp
              obtain ⟨A5, hA5⟩ : ∃ A5, A4.alloc (.cells #[.slice o5 n5 c5, .slice o6 n6 c6] 25) = A5 := ⟨_, rfl⟩
              rw [hA5] at bb q5 q6 s5 J4 ⊢
              have lt5 : A4.heap.size < A5.heap.size := by omega
              have lx : w.heap.size < A5.heap.size := World.block_lt_of_cell? A5 _ J4.c0
              have ly : w.heap.size + 1 < A5.heap.size := World.block_lt_of_cell? A5 _ J4.d0
              have St := Wt.start A5 to tn tc F2 G2
              rw [← s5]
              clear s5
              (try clear hm2)
              (try clear hmo)
              (try clear hh1)
              clear hA5 hd hes hmx hh2 f0 f1 f2 f3 e0 e1 e2 e3 d0 d1 d2 d3 b0 b1 b2 b3 a0 a1 a2 a3
              go_loopw [19, 20] (fun f i V => ∃ k : Nat, k ≤ bn ∧ i = .int .i64 (k : Nat) ∧ f = .int .i64 (gK G2 k) ∧ Wt A5 V to tn tc k F2 G2) (fun _ i _ => bn - (intOf i).toNat)
              case atStart => exact ⟨0, Nat.zero_le _, rfl, rfl, St⟩
              case round =>
                obtain ⟨k, hk, rfl, rfl, L0⟩ := hrel
                clear St
                have J5 := J4.below L0.bel
                have J5' := J5
                obtain ⟨u0, u1, u2, u3, _, _, _, _, _⟩ := J5'
                by_cases z : gK G2 k = 0
                ·
                  by_cases hlt : k < bn
                  · have bd := hb2 k hlt
                    have hn := hn2 k hlt
                    have t1 : decide ((k : Int) < (bn : Int)) = true := by simp; omega
                    have b3 : (k : Int) < (bn : Int) := by omega
                    have b4 : (k : Int) < (an : Int) := by have := HAN.out; omega
                    have wk : IntKind.i64.wrap ((k : Int) + 1) = (k : Int) + 1 := wrapIn _ (by omega)
                    obtain ⟨xb, xoff, rfl, hxb, hxc⟩ := J4.a.cells (by have := HAN.out; omega)
                    obtain ⟨yb, yoff, rfl, hyb, hyc⟩ := J4.b.cells (by omega)
                    have cx := hxc k (by have := HAN.out; omega)
                    have cy := hyc k hlt
                    clear hxc hyc
                    have al : ∀ V, Wt A5 V to tn tc k F2 G2 → V.cell? ⟨w.heap.size, 1, none⟩ = some (.slice (some ⟨xb, xoff, none⟩) an ac) ∧ V.cell? ⟨w.heap.size + 1, 1, none⟩ = some (.slice (some ⟨yb, yoff, none⟩) bn bc) ∧ V.cell? ⟨xb, xoff + k, none⟩ = some (.int .i64 (nth ax k)) ∧ V.cell? ⟨yb, yoff + k, none⟩ = some (.int .i64 (nth ay k)) ∧ Wt A5 V to tn tc k F2 G2 :=
                      fun V r => ⟨(r.bel.cell (p := ⟨w.heap.size, 1, none⟩) lx).trans J4.c1, (r.bel.cell (p := ⟨w.heap.size + 1, 1, none⟩) ly).trans J4.d1, (r.bel.cell (p := ⟨xb, xoff + k, none⟩) hxb).trans cx, (r.bel.cell (p := ⟨yb, yoff + k, none⟩) hyb).trans cy, r⟩
                    rw [z]
                    go_wp2
                    go_region_held3 (fun V => V.cell? ⟨w.heap.size, 1, none⟩ = some (.slice (some ⟨xb, xoff, none⟩) an ac) ∧ V.cell? ⟨w.heap.size + 1, 1, none⟩ = some (.slice (some ⟨yb, yoff, none⟩) bn bc) ∧ V.cell? ⟨xb, xoff + k, none⟩ = some (.int .i64 (nth ax k)) ∧ V.cell? ⟨yb, yoff + k, none⟩ = some (.int .i64 (nth ay k)) ∧ Wt A5 V to tn tc k F2 G2) (first | exact al _ (by assumption) | exact al _ ((by assumption : Wt _ _ _ _ _ _ _ _).below (Below.refl _ _).drew))
                      (first | (go_at_call 36; have HS := (‹_ ∧ _ ∧ _ ∧ _ ∧ Wt A5 _ to tn tc k F2 G2›).2.2.2.2; (with_reducible refine (hn _).mono ?_); rintro e V3 ⟨rfl, n, hV3⟩; have L3 := HS.below (below_drewN (Below.refl _ _) n); rw [← hV3] at L3; clear hV3))
                    obtain ⟨qo, qc, hb3, hf3⟩ := L3.row; have lt3 : A5.heap.size < V3.heap.size := (Array.getElem?_eq_some_iff.1 hb3).1; obtain ⟨y0, y1, y2, y3⟩ := box2 hb3; have f4 := hf3.below (box_below V3 (.cells #[.int .i64 (F2 k)] 2)) (Nat.le_refl _); have lit := ft_new 2 V3 [F2 k] (by simp) (num1 bd.1 bd.2)
                    go_wp2_with (at_builtin; refine wpList_joinT tyL rfl _ _ rfl (A5.heap.size + 1) _ _ _ _ _ _ _ _ rfl rfl f4 lit.rd lit.sl (by omega) (by simp; omega) ?_; intro co cc V5 f5 k5; have hb5 := (k5.block A5.heap.size (Nat.lt_succ_self _)).trans (((box_below V3 (.cells #[.int .i64 (F2 k)] 2)).block A5.heap.size lt3).trans hb3); obtain ⟨x0, x1, x2, x3⟩ := box2 hb5)
                    go_roundw
                    case rel => exact ⟨k + 1, by omega, by go_num, rfl, Wt.step ((btw L3.bel (box_below V3 _) L3.bel.size).trans (k5.mono (Nat.le_succ _))) hb5 f5 L3.err z⟩
                    case measure => simp [intOf]; omega
                  · obtain rfl : bn = k := by omega
                    exact absurd (fe_full L0.err z) HR2.out
                · have z1 : (gK G2 k == 0) = false := by simpa using z
                  have z2 : (gK G2 k != 0) = true := by simpa using z
                  by_cases hlt : k < bn
                  · have t1 : decide ((k : Int) < (bn : Int)) = true := by simp; omega
                    have ee : (E2' == gK G2 k) = true := by rw [HE2.out, fe_gK hk L0.err z]; simp
                    obtain ⟨qo, qc, hb3, hf3⟩ := L0.row
                    obtain ⟨y0, y1, y2, y3⟩ := box2 hb3
                    have bel' := below_set2 (b := A5.heap.size) 0 1 (.slice none 0 0) (.slice none 0 0) L0.bel (Nat.le_refl _) (Nat.le_refl _)
                    have s1 := heap_setCell_same wr A5.heap.size 0 _ 25 (.slice none 0 0) hb3
                    have s2 : ((wr.setCell ⟨A5.heap.size, 0, none⟩ (.slice none 0 0)).setCell ⟨A5.heap.size, 1, none⟩ (.slice none 0 0)).heap[A5.heap.size]? = some (.cells #[.slice none 0 0, .slice none 0 0] 25 (0, 0)) := heap_setCell_same _ A5.heap.size 1 _ 25 (.slice none 0 0) s1
                    obtain ⟨x0, x1, _, _⟩ := box2 s2
                    obtain ⟨v0, v1, _, _⟩ := box2 ((bel'.block A4.heap.size lt5).trans bb)
                    have J6 := J4.below bel'
                    go_wp2_with (go_at_call 34; (with_reducible refine (eq_nil _ _ _ _ _ _ _ (q5.below bel' (Nat.le_refl _)) (q6.below bel' (Nat.le_refl _))).mono ?_); rintro e V6 ⟨rfl, k6⟩)
                    go_ret
                    exact ⟨rfl, btw J6.bel k6 J6.bel.size⟩
                  · obtain rfl : bn = k := by omega
                    have t1 : decide ((bn : Int) < (bn : Int)) = false := by simp
                    have ee : (E2' == gK G2 bn) = true := by rw [HE2.out, fe_gK hk L0.err z]; simp
                    obtain ⟨qo, qc, hb3, hf3⟩ := L0.row
                    obtain ⟨y0, y1, y2, y3⟩ := box2 hb3
                    have bel' := below_set2 (b := A5.heap.size) 0 1 (.slice none 0 0) (.slice none 0 0) L0.bel (Nat.le_refl _) (Nat.le_refl _)
                    have s1 := heap_setCell_same wr A5.heap.size 0 _ 25 (.slice none 0 0) hb3
                    have s2 : ((wr.setCell ⟨A5.heap.size, 0, none⟩ (.slice none 0 0)).setCell ⟨A5.heap.size, 1, none⟩ (.slice none 0 0)).heap[A5.heap.size]? = some (.cells #[.slice none 0 0, .slice none 0 0] 25 (0, 0)) := heap_setCell_same _ A5.heap.size 1 _ 25 (.slice none 0 0) s1
                    obtain ⟨x0, x1, _, _⟩ := box2 s2
                    obtain ⟨v0, v1, _, _⟩ := box2 ((bel'.block A4.heap.size lt5).trans bb)
                    have J6 := J4.below bel'
                    go_wp2_with (go_at_call 34; (with_reducible refine (eq_nil _ _ _ _ _ _ _ (q5.below bel' (Nat.le_refl _)) (q6.below bel' (Nat.le_refl _))).mono ?_); rintro e V6 ⟨rfl, k6⟩)
                    go_ret
                    exact ⟨rfl, btw J6.bel k6 J6.bel.size⟩
          · have heq : eqA sx [] sy [] = false := eqA_sh (by unfold eqB; simpa using hxy)
            rw [heq] at hes
            clear heq hxy m0 c2
            go_wp2_with (first | (go_at_call 32; (with_reducible refine (hh2 _).mono ?_); rintro e A1 ⟨rfl, j1⟩; have J1 := JJ.below j1; have J1' := J1; obtain ⟨b0, b1, b2, b3, _, _, _, _, _⟩ := J1') | (go_at_call 30; (with_reducible refine (hmx _ J1.s J1.a).mono ?_); rintro e A2 ⟨rfl, j2⟩; have J2 := J1.below j2; have J2' := J2; obtain ⟨d0, d1, d2, d3, _, _, _, _, _⟩ := J2') | (go_at_call 34; (with_reducible refine (hes _ J2.s J2.t).mono ?_); rintro e A3 ⟨rfl, j3⟩; have J3 := J2.below j3; have J3' := J3; obtain ⟨e0, e1, e2, e3, _, _, _, _, _⟩ := J3'))
            go_ret
            exact ⟨rfl, J3.bel⟩
        · have m0' : (mayA sx ax != 0) = true := by simpa using m0
          clear m0 c2
          go_wp2_with (first | (go_at_call 32; (with_reducible refine (hh2 _).mono ?_); rintro e A1 ⟨rfl, j1⟩; have J1 := JJ.below j1; have J1' := J1; obtain ⟨b0, b1, b2, b3, _, _, _, _, _⟩ := J1') | (go_at_call 30; (with_reducible refine (hmx _ J1.s J1.a).mono ?_); rintro e A2 ⟨rfl, j2⟩; have J2 := J1.below j2; have J2' := J2; obtain ⟨d0, d1, d2, d3, _, _, _, _, _⟩ := J2'))
          go_ret
          exact ⟨rfl, J2.bel⟩
end Go.Proofs.Ytjllmfahmlfljaa
