
/- Contract of package atom's Dyad: pair by pair. -/

import Derived.Test.YthncgocjegalhaaT3

import Derived.Deep.RegionHeld3

namespace Go.Proofs.Ythncgocjegalhaa

open Go.RowKit Go.Deep

set_option linter.unusedVariables false

theorem Rwt.less {W V : World} {n k : Nat} {f : Nat → Int} (h : Rwt W V n (k + 1) f) : Rwt W V n k f := by
  obtain ⟨zs, hf, hz⟩ := h.row
  exact ⟨h.bel, zs, hf, fun j hj => hz j (by omega)⟩

/-- The reckoning of Dyad: how many atoms, and which go together. -/
theorem dy_facts {sx ax sy ay : List Int} (h0 : mayA sx ax = 0) (h0' : mayA sy ay = 0) (ha : agrB sx sy = true) :
    sx.length ≤ (agrL sx sy).length ∧ sy.length ≤ (agrL sx sy).length ∧ sizeF ((agrL sx sy).drop sx.length) = (dyB sx sy sx : Nat) ∧ sizeF ((agrL sx sy).drop sy.length) = (dyB sx sy sy : Nat) ∧
    ax.length * dyB sx sy sx = dyN sx sy ∧ ay.length * dyB sx sy sy = dyN sx sy ∧ dyN sx sy ≤ 4096 ∧ dyB sx sy sx ≤ 4096 ∧ dyB sx sy sy ≤ 4096 ∧ mayF (agrL sx sy) = 0 := by
  obtain ⟨m1, l1⟩ := mayA_zero h0
  obtain ⟨m2, l2⟩ := mayA_zero h0'
  obtain ⟨t1, t2, t3⟩ := agr_true ha
  have mL : mayF (agrL sx sy) = 0 := by unfold agrL; rw [if_pos ha]; split <;> assumption
  have dx := mayF_drop mL sx.length
  have dy := mayF_drop mL sy.length
  have bL := prF_bd mL
  have bx := prF_bd dx
  have b_y := prF_bd dy
  have px : pr sx * pr ((agrL sx sy).drop sx.length) = pr (agrL sx sy) := by
    conv => lhs; arg 1; rw [← t1]
    rw [← pr_app, List.take_append_drop]
  have py : pr sy * pr ((agrL sx sy).drop sy.length) = pr (agrL sx sy) := by
    conv => lhs; arg 1; rw [← t2]
    rw [← pr_app, List.take_append_drop]
  have e1 : ((dyB sx sy sx : Nat) : Int) = pr ((agrL sx sy).drop sx.length) := by unfold dyB; omega
  have e2 : ((dyB sx sy sy : Nat) : Int) = pr ((agrL sx sy).drop sy.length) := by unfold dyB; omega
  have e3 : ((dyN sx sy : Nat) : Int) = pr (agrL sx sy) := by unfold dyN; omega
  refine ⟨by rw [t3]; exact Nat.le_max_left _ _, by rw [t3]; exact Nat.le_max_right _ _, by rw [sizeF_ok dx, e1], by rw [sizeF_ok dy, e2], ?_, ?_, by omega, by omega, by omega, mL⟩
  · have : ((ax.length * dyB sx sy sx : Nat) : Int) = (dyN sx sy : Nat) := by rw [Int.natCast_mul, e1, e3, l1, px]
    exact_mod_cast this
  · have : ((ay.length * dyB sx sy sy : Nat) : Int) = (dyN sx sy : Nat) := by rw [Int.natCast_mul, e2, e3, l2, py]
    exact_mod_cast this

set_option maxHeartbeats 8000000 in
set_option maxRecDepth 20000 in
theorem dyad_go (op : Int) (so ao to bo : Option Addr) (sn sc an ac tn tc bn bc : Nat) (sx ax sy ay : List Int) (w : World) (h1 : Rd w so sn sx) (h2 : Rd w ao an ax) (h3 : Rd w to tn sy) (h4 : Rd w bo bn ay) (hs : Sl so sn sc) (ht : Sl to tn tc) (h0 : mayA sx ax = 0) (h0' : mayA sy ay = 0) (hk : lck (Nm.dE op 0 0) = false) (ha : agrB sx sy = true) :
    Calls Try.prog 28 #[.int .i64 op, .agg #[.slice so sn sc, .slice ao an ac], .agg #[.slice to tn tc, .slice bo bn bc]] w fun e w' => ∃ o1 n1 c1 o2 n2 c2, e = .returned (.tuple #[.agg #[.slice o1 n1 c1, .slice o2 n2 c2], .int .i64 (fe (dyR op sx ax sy ay))]) ∧ Ft 3 w' w.heap.size o1 n1 c1 (onOk (fe (dyR op sx ax sy ay)) (agrL sx sy)) ∧ Ft 2 w' w.heap.size o2 n2 c2 (onOk (fe (dyR op sx ax sy ay)) (dyL op sx ax sy ay)) ∧ Below w.heap.size w w' := by
  have I0 := dy_start w so sn sc ao an ac to tn tc bo bn bc sx ax sy ay h1 h2 h3 h4
  have hm := mayA_any so ao sn sc an ac sx ax _ I0.s I0.a
  have hm2 := fun W (x : Rd W to tn sy) (y : Rd W bo bn ay) => mayA_any to bo tn tc bn bc sy ay W x y
  obtain ⟨f1, f2, f3, f4, f5, f6, f7, f8, f9, fM⟩ := dy_facts h0 h0' ha
  rw [h0] at hm
  rw [h0'] at hm2
  have hmo := fun W => dyadOf_ok op W hk
  dsimp only [dFn] at hmo
  have hag := fun W (x : Rd W so sn sx) (y : Rd W to tn sy) => agree_any so to sn tn sc tc sx sy W x y hs ht
  rw [show agrE sx sy = 0 by unfold agrE; rw [if_pos ha]] at hag
  rw [h1.len] at f1 f3
  rw [h3.len] at f2 f4
  rw [h2.len] at f5
  rw [h4.len] at f6
  have HF : Hid (∀ i, dyF op sx ax sy ay i = Nm.dN op (nth ax (i / dyB sx sy sx)) (nth ay (i / dyB sx sy sy))) := fun i => rfl
  have HG : Hid (∀ i, dyG op sx ax sy ay i = Nm.dE op (nth ax (i / dyB sx sy sx)) (nth ay (i / dyB sx sy sy))) := fun i => rfl
  have HR : Hid (dyR op sx ax sy ay = (List.range (dyN sx sy)).map (dyG op sx ax sy ay)) := rfl
  have HL : Hid (dyL op sx ax sy ay = (List.range (dyN sx sy)).map (dyF op sx ax sy ay)) := rfl
  generalize dyF op sx ax sy ay = F at *
  generalize dyG op sx ax sy ay = G at *
  generalize dyR op sx ax sy ay = R at *
  generalize dyL op sx ax sy ay = LL at *
  generalize agrL sx sy = L at *
  generalize dyB sx sy sx = X at *
  generalize dyB sx sy sy = Y at *
  generalize dyN sx sy = n at *
  have aroom := h2.room
  have broom := h4.room
  have hmk := run_make_row' (P := Try.prog) 34 2 (.int .i64 0) 8 Try.underlying34 infoL3 rfl .i64 .i64 n (by omega) (by omega)
  have hxn : Hid (∀ k, k < an → Nm.inr (nth ax k) = true) := fun k hk => by rw [Nm.inr_iff]; exact h2.num k hk
  have hyn : Hid (∀ k, k < bn → Nm.inr (nth ay k) = true) := fun k hk => by rw [Nm.inr_iff]; exact h4.num k hk
  have m1 : ((an : Int) * (X : Int)) = (n : Int) := by exact_mod_cast f5
  have w1 : IntKind.i64.wrap (n : Int) = (n : Int) := wrapIn _ (by omega)
  have F5 : Hid (an * X = n) := f5
  have F6 : Hid (bn * Y = n) := f6
  clear h0 hk h0' ha f5 f6 fM
  go_enter Try.func28, Try.ntmps28
  go_wp2_with (first
    | (go_at_call 21; (with_reducible refine hm.mono ?_); rintro e w1 ⟨rfl, k1⟩; have I1 := I0.below k1 (Nat.le_refl _); have I1' := I1; obtain ⟨p0, p1, p2, p3, _, _, _, _, _, _⟩ := I1')
    | (go_at_call 21; (with_reducible refine (hm2 _ I1.t I1.b).mono ?_); rintro e w2 ⟨rfl, k2⟩; have I2 := I1.below k2 (Nat.le_refl _))
    | (go_at_call 42; refine (hmo _).mono ?_; rintro e w3 ⟨rfl, hg, k3⟩; have I3 := I2.below k3 (Nat.le_refl _); have I3' := I3; obtain ⟨q0, q1, q2, q3, _, _, _, _, _, _⟩ := I3')
    | (go_at_call 43; refine (hag _ I3.s I3.t).mono ?_; rintro e w4 ⟨lo, ln, lc, rfl, fl, k4⟩; have I4 := I3.below k4 (Nat.le_refl _); have I4' := I4; obtain ⟨r0, r1, r2, r3, _, _, _, _, _, _⟩ := I4'))
  have ll := fl.rd.len
  rw [ll] at f1 f2
  have hbx := fun W (x : Rd W lo ln L) => below_any lo so ln lc sn sc L W x fl.sl f1
  have hby := fun W (x : Rd W lo ln L) => below_any lo to ln lc tn tc L W x fl.sl f2
  rw [f3] at hbx
  rw [f4] at hby
  have flr := fl.rd
  clear hm hm2 hmo hag I0 p0 p1 p2 p3 q0 q1 q2 q3 f3 f4
  go_quiet (first | (with_reducible exact Calls.quiet_of_same (hbx _ (flr.drewN _))) | (with_reducible exact Calls.quiet_of_same (hby _ (flr.drewN _))))
  have bdr := below_drewN (Below.refl w4.heap.size w4) nq
  have I5 := I4.below bdr (Nat.le_refl _)
  have fl5 := fl.below bdr (Nat.le_refl _)
  have lg : w2.heap.size < w3.heap.size := World.block_lt_of_cell? w3 _ hg
  have hg5 := (bdr.cell (p := ⟨w2.heap.size, 0, none⟩) (Nat.lt_of_lt_of_le lg k4.size)).trans ((k4.cell (p := ⟨w2.heap.size, 0, none⟩) lg).trans hg)
  have lg5 : w2.heap.size < (w4.drewN nq).heap.size := Nat.lt_of_lt_of_le (Nat.lt_of_lt_of_le lg k4.size) bdr.size
  have l34 := k4.size
  have l45 := bdr.size
  have l03 := I3.bel.size
  obtain ⟨W5, hW5⟩ : ∃ W5, w4.drewN nq = W5 := ⟨_, rfl⟩
  rw [hW5] at I5 fl5 hg5 lg5 l45 ⊢
  clear bdr hW5 hbx hby flr fl r0 r1 r2 r3
  have R0 := Rwt.start W5 n F (by omega)
  have I5' := I5
  obtain ⟨p0, p1, p2, p3, _, _, _, _, _, _⟩ := I5'
  have l5 : w.heap.size + 1 + 1 < W5.heap.size := (Array.getElem?_eq_some_iff.1 I5.r).1
  go_wp2
  clear hmk p0 p1 p2 p3
  go_loopw [61] (fun i V => ∃ k : Nat, k ≤ n ∧ i = .int .i64 (k : Nat) ∧ (∀ j, j < k → G j = 0) ∧ Rwt W5 V n k F) (fun i _ => n - (intOf i).toNat)
  case atStart => exact ⟨0, Nat.zero_le _, rfl, fun j hj => by omega, R0⟩
  case round =>
    obtain ⟨k, hk, rfl, hE, L0⟩ := hrel
    have HE : Hid (∀ j, j < k → G j = 0) := hE
    clear hE R0
    by_cases hlt : k < n
    · have X0 : 0 < X := Nat.pos_of_ne_zero (fun e => by have := F5.out; rw [e] at this; omega)
      have Y0 : 0 < Y := Nat.pos_of_ne_zero (fun e => by have := F6.out; rw [e] at this; omega)
      have hq1 : k / X < an := (Nat.div_lt_iff_lt_mul X0).2 (by rw [F5.out]; exact hlt)
      have hq2 : k / Y < bn := (Nat.div_lt_iff_lt_mul Y0).2 (by rw [F6.out]; exact hlt)
      have HFk : F k = Nm.dN op (nth ax (k / X)) (nth ay (k / Y)) := HF.out k
      have HGk : G k = Nm.dE op (nth ax (k / X)) (nth ay (k / Y)) := HG.out k
      have d1 : (k : Int) / (X : Int) = ((k / X : Nat) : Int) := (Int.natCast_ediv _ _).symm
      have d2 : (k : Int) / (Y : Int) = ((k / Y : Nat) : Int) := (Int.natCast_ediv _ _).symm
      have bx := Nm.inr_iff.1 (Nm.inr_dN op (nth ax (k / X)) (nth ay (k / Y)) (hxn.out _ hq1) (hyn.out _ hq2))
      obtain ⟨xb, xoff, rfl, hxb, hxc⟩ := I5.a.cells (Nat.lt_of_le_of_lt (Nat.zero_le _) hq1)
      obtain ⟨yb, yoff, rfl, hyb, hyc⟩ := I5.b.cells (Nat.lt_of_le_of_lt (Nat.zero_le _) hq2)
      have cx := hxc _ hq1
      have cy := hyc _ hq2
      have hfn : ∀ V, Rwt W5 V n k F → Calls Try.prog 53 #[.int .i64 (nth ax (k / X)), .int .i64 (nth ay (k / Y)), .pointer (some ⟨w2.heap.size, 0, none⟩)] V fun e w' => e = .returned (.tuple #[.int .i64 (F k), .int .i64 (G k)]) ∧ ∃ m, w' = V.drewN m := by
        intro V r
        rw [HFk, HGk]
        exact dFn_any _ _ _ _ _ ((r.bel.cell (p := ⟨w2.heap.size, 0, none⟩) lg5).trans hg5) (hxn.out _ hq1) (hyn.out _ hq2)
      rw [← HFk] at bx
      clear HFk HGk hxc hyc
      generalize k / X = q1 at *
      generalize k / Y = q2 at *
      have nx : ¬ X = 0 := by omega
      have ny : ¬ Y = 0 := by omega
      have wq1 : IntKind.i64.wrap ((k : Int) / (X : Int)) = (q1 : Int) := by rw [d1]; exact wrapIn _ (by clear d1 d2; omega)
      have wq2 : IntKind.i64.wrap ((k : Int) / (Y : Int)) = (q2 : Int) := by rw [d2]; exact wrapIn _ (by clear d1 d2; omega)
      clear d1 d2
      have t1 : decide ((k : Int) < (n : Int)) = true := by simp; omega
      have b1 : (q1 : Int) < (an : Int) := by omega
      have b2 : (q2 : Int) < (bn : Int) := by omega
      have b3 : (k : Int) < (n : Int) := by omega
      have w2' : IntKind.i64.wrap ((k : Int) + 1) = (k : Int) + 1 := wrapIn _ (by omega)
      have al : ∀ V, Rwt W5 V n k F → V.cell? ⟨w.heap.size, 1, none⟩ = some (.slice (some ⟨xb, xoff, none⟩) an ac) ∧ V.cell? ⟨w.heap.size + 1, 1, none⟩ = some (.slice (some ⟨yb, yoff, none⟩) bn bc) ∧ V.cell? ⟨xb, xoff + q1, none⟩ = some (.int .i64 (nth ax q1)) ∧ V.cell? ⟨yb, yoff + q2, none⟩ = some (.int .i64 (nth ay q2)) ∧ Rwt W5 V n k F :=
        fun V r => ⟨(r.bel.cell (p := ⟨w.heap.size, 1, none⟩) (show w.heap.size < W5.heap.size by omega)).trans I5.c1, (r.bel.cell (p := ⟨w.heap.size + 1, 1, none⟩) (show w.heap.size + 1 < W5.heap.size by omega)).trans I5.d1, (r.bel.cell (p := ⟨xb, xoff + q1, none⟩) hxb).trans cx, (r.bel.cell (p := ⟨yb, yoff + q2, none⟩) hyb).trans cy, r⟩
      by_cases he : G k = 0
      · have HE2 : Hid (G k = 0) := he
        rw [he] at hfn
        clear he
        go_wp2
        go_region_held3 (fun V => V.cell? ⟨w.heap.size, 1, none⟩ = some (.slice (some ⟨xb, xoff, none⟩) an ac) ∧ V.cell? ⟨w.heap.size + 1, 1, none⟩ = some (.slice (some ⟨yb, yoff, none⟩) bn bc) ∧ V.cell? ⟨xb, xoff + q1, none⟩ = some (.int .i64 (nth ax q1)) ∧ V.cell? ⟨yb, yoff + q2, none⟩ = some (.int .i64 (nth ay q2)) ∧ Rwt W5 V n k F) (first | exact al _ (by assumption) | exact al _ ((by assumption : Rwt _ _ _ _ _).below (Below.refl _ _).drew) | exact al _ L4.less)
          (first | (go_at_call 53; have HS := (‹_ ∧ _ ∧ _ ∧ _ ∧ Rwt W5 _ n k F›).2.2.2.2; (with_reducible refine (hfn _ HS).mono ?_); rintro e W7 ⟨rfl, m, hW7⟩; have L3 := HS.drewN m; rw [← hW7] at L3; clear hW7; obtain ⟨u, x0, x1⟩ := L3.slot k hlt; have L4 := L3.set hlt bx.1 bx.2))
        go_wp2
        go_roundw
        case rel => exact ⟨k + 1, by omega, by go_num, fun j hj => (by rcases Nat.lt_succ_iff_lt_or_eq.1 hj with h | h; exact HE.out j h; rw [h]; exact HE2.out), L4⟩
        case measure => simp [intOf]; omega
      · have HE2 : Hid (G k ≠ 0) := he
        have he' : (G k != 0) = true := by simpa using he
        have hfe : Hid (fe R = G k) := by
          show _ = _
          rw [HR.out, fe_at _ k (by simpa using hlt) (fun j hj => by rw [nth_range (by omega)]; exact HE.out j hj) (by rw [nth_range hlt]; exact he), nth_range hlt]
        clear he
        go_wp2
        go_region_held3 (fun V => V.cell? ⟨w.heap.size, 1, none⟩ = some (.slice (some ⟨xb, xoff, none⟩) an ac) ∧ V.cell? ⟨w.heap.size + 1, 1, none⟩ = some (.slice (some ⟨yb, yoff, none⟩) bn bc) ∧ V.cell? ⟨xb, xoff + q1, none⟩ = some (.int .i64 (nth ax q1)) ∧ V.cell? ⟨yb, yoff + q2, none⟩ = some (.int .i64 (nth ay q2)) ∧ Rwt W5 V n k F) (first | exact al _ (by assumption) | exact al _ ((by assumption : Rwt _ _ _ _ _).below (Below.refl _ _).drew) | exact al _ L4.less)
          (first | (go_at_call 53; have HS := (‹_ ∧ _ ∧ _ ∧ _ ∧ Rwt W5 _ n k F›).2.2.2.2; (with_reducible refine (hfn _ HS).mono ?_); rintro e W7 ⟨rfl, m, hW7⟩; have L3 := HS.drewN m; rw [← hW7] at L3; clear hW7; obtain ⟨u, x0, x1⟩ := L3.slot k hlt; have L4 := L3.set hlt bx.1 bx.2; have I8 := I5.below L4.bel (Nat.le_refl _); obtain ⟨y0, y1, y2, y3⟩ := box2 I8.r))
        go_wp2
        (try simp only [Exit.inBlock, Exit.then])
        refine bodyPost_ret (v := .tuple #[.agg #[.slice none 0 0, .slice none 0 0], .int .i64 (G k)]) (by rw [results_cell_tmp rfl]; go_simp) rfl ?_
        rw [hfe.out, onOk_no HE2.out, onOk_no HE2.out]
        exact ⟨none, 0, 0, none, 0, 0, rfl, Ft.nil _ _ _, Ft.nil _ _ _, below_set2 _ _ _ _ I8.bel (by omega) (Nat.le_refl _)⟩
    · obtain rfl : k = n := by omega
      have t1 : decide ((k : Int) < (k : Int)) = false := by simp
      have hfe : Hid (fe R = 0) := by
        show _ = _
        rw [HR.out]
        exact fe_none _ (fun j hj => by simp only [List.length_map, List.length_range] at hj; rw [nth_range hj]; exact HE.out j hj)
      have I6 := I5.below L0.bel (Nat.le_refl _)
      obtain ⟨y0, y1, y2, y3⟩ := box2 I6.r
      go_wp2
      (try simp only [Exit.inBlock, Exit.then])
      refine bodyPost_ret (v := .tuple #[.agg #[.slice lo ln lc, .slice (some ⟨W5.heap.size, 0, none⟩) k k], .int .i64 0]) (by rw [results_cell_tmp rfl]; go_simp) rfl ?_
      rw [hfe.out, onOk_ok rfl, onOk_ok rfl]
      have sz := L0.bel.size
      have FA := L0.all LL (by rw [HL.out]; simp) (fun j hj => by rw [HL.out]; exact nth_range hj)
      have FS := (Fr.ft fl5).below L0.bel (Nat.le_refl _)
      refine ⟨_, _, _, _, _, _, rfl, (FS.keep1 (set2 _ _ _ _ _ _) (fun b off e => ?_)).mono (by omega), (FA.keep1 (set2 _ _ _ _ _ _) (fun b off e => ?_)).mono (by omega), below_set2 _ _ _ _ I6.bel (by omega) (Nat.le_refl _)⟩
      · have ww := (Array.getElem?_eq_some_iff.1 I3.r).1
        intro e'; have := (FS.at b off e).1; simp only [Option.some.injEq] at e'; omega
      · intro e'; cases e; simp only [Option.some.injEq] at e'; omega

theorem dyad_any (op : Int) (so ao to bo : Option Addr) (sn sc an ac tn tc bn bc : Nat) (sx ax sy ay : List Int) (w : World) (h1 : Rd w so sn sx) (h2 : Rd w ao an ax) (h3 : Rd w to tn sy) (h4 : Rd w bo bn ay) (hs : Sl so sn sc) (ht : Sl to tn tc) :
    Calls Try.prog 28 #[.int .i64 op, .agg #[.slice so sn sc, .slice ao an ac], .agg #[.slice to tn tc, .slice bo bn bc]] w fun e w' => ∃ o1 n1 c1 o2 n2 c2, e = .returned (.tuple #[.agg #[.slice o1 n1 c1, .slice o2 n2 c2], .int .i64 (ddE op sx ax sy ay)]) ∧ Ft 3 w' w.heap.size o1 n1 c1 (ddS op sx ax sy ay) ∧ Ft 2 w' w.heap.size o2 n2 c2 (ddA op sx ax sy ay) ∧ Below w.heap.size w w' := by
  unfold ddS ddA
  by_cases h0 : mayA sx ax ≠ 0 ∨ mayA sy ay ≠ 0
  · have e1 : ddE op sx ax sy ay = 1 := if_pos h0
    rw [e1, onOk_no (by decide), onOk_no (by decide)]
    exact (dyad_bad op so ao to bo sn sc an ac tn tc bn bc sx ax sy ay w h1 h2 h3 h4 h0).mono fun e w' ⟨h1, h2⟩ => ⟨none, 0, 0, none, 0, 0, h1, Ft.nil _ _ _, Ft.nil _ _ _, h2⟩
  · have a0 : mayA sx ax = 0 := Classical.byContradiction fun e => h0 (.inl e)
    have b0 : mayA sy ay = 0 := Classical.byContradiction fun e => h0 (.inr e)
    cases hk : lck (Nm.dE op 0 0)
    · cases ha : agrB sx sy
      · have e1 : ddE op sx ax sy ay = 11 := by unfold ddE; rw [if_neg h0, if_neg (by rw [hk]; decide), if_neg (by rw [ha]; decide)]
        rw [e1, onOk_no (by decide), onOk_no (by decide)]
        exact (dyad_len op so ao to bo sn sc an ac tn tc bn bc sx ax sy ay w h1 h2 h3 h4 hs ht a0 b0 hk ha).mono fun e w' ⟨h1, h2⟩ => ⟨none, 0, 0, none, 0, 0, h1, Ft.nil _ _ _, Ft.nil _ _ _, h2⟩
      · have e1 : ddE op sx ax sy ay = fe (dyR op sx ax sy ay) := by unfold ddE; rw [if_neg h0, if_neg (by rw [hk]; decide), if_pos ha]
        rw [e1]
        exact dyad_go op so ao to bo sn sc an ac tn tc bn bc sx ax sy ay w h1 h2 h3 h4 hs ht a0 b0 hk ha
    · have e1 : ddE op sx ax sy ay = Nm.dE op 0 0 := by unfold ddE; rw [if_neg h0, if_pos hk]
      rw [e1, onOk_no (lck_ne hk), onOk_no (lck_ne hk)]
      exact (dyad_lack op so ao to bo sn sc an ac tn tc bn bc sx ax sy ay w h1 h2 h3 h4 a0 b0 hk).mono fun e w' ⟨h1, h2⟩ => ⟨none, 0, 0, none, 0, 0, h1, Ft.nil _ _ _, Ft.nil _ _ _, h2⟩
end Go.Proofs.Ythncgocjegalhaa
