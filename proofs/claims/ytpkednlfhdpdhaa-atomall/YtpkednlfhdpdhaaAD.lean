
/- abacusref5.Dyad. -/

import Derived.Test.YtpkednlfhdpdhaaAM

import Derived.Test.YtpkednlfhdpdhaaT4

import Derived.Test.YtpkednlfhdpdhaaRefs2

import Derived.Deep.RegionHeld3

namespace Go.Proofs.Ytpkednlfhdpdhaa

open Go.RowKit

set_option linter.unusedVariables false

theorem Dy.grown {w C V : World} {so : Option Addr} {sn sc : Nat} {ao : Option Addr} {an ac : Nat} {to : Option Addr} {tn tc : Nat} {bo : Option Addr} {bn bc : Nat} {sx ax sy ay : List Int} {q : Nat} (h : Dy w C so sn sc ao an ac to tn tc bo bn bc sx ax sy ay) (h1 : Rd w so sn sx) (h2 : Rd w ao an ax) (h3 : Rd w to tn sy) (h4 : Rd w bo bn ay) (g : C.grownBy V (some q)) (hq : w.heap.size + 1 + 1 < q) : Dy w V so sn sc ao an ac to tn tc bo bn bc sx ax sy ay := by
  have l0 : w.heap.size < C.heap.size := World.block_lt_of_cell? C _ h.c0
  have l1 : w.heap.size + 1 < C.heap.size := World.block_lt_of_cell? C _ h.d0
  have l2 := (Array.getElem?_eq_some_iff.1 h.r).1
  have bl : Below w.heap.size w V := h.bel.grown g h.bel.size (fun k e => by cases e; omega)
  have b0 := g.block w.heap.size l0 (by intro e; simp only [Option.some.injEq] at e; omega)
  have b1 := g.block (w.heap.size + 1) l1 (by intro e; simp only [Option.some.injEq] at e; omega)
  exact ⟨(World.cell?_of_block (w := C) b0).trans h.c0, (World.cell?_of_block (w := C) b0).trans h.c1, (World.cell?_of_block (w := C) b1).trans h.d0, (World.cell?_of_block (w := C) b1).trans h.d1, (g.block _ l2 (by intro e; simp only [Option.some.injEq] at e; omega)).trans h.r, h1.below bl (Nat.le_refl _), h2.below bl (Nat.le_refl _), h3.below bl (Nat.le_refl _), h4.below bl (Nat.le_refl _), bl⟩
theorem dd_bad {op : Int} {sx ax sy ay : List Int} (h : bdD op sx ax sy ay ≠ 0) : ddE op sx ax sy ay = bdD op sx ax sy ay := by
  unfold bdD opD at h ⊢
  unfold ddE
  by_cases c : mayA sx ax ≠ 0
  · rw [if_pos (.inl c), if_pos c]
  · rw [if_neg c] at h ⊢
    by_cases c2 : mayA sy ay ≠ 0
    · rw [if_pos (.inr c2), if_pos c2]
    · rw [if_neg c2] at h ⊢
      rw [if_neg (fun x => x.elim c c2)]
      by_cases d : lck (Nm.dE op 0 0) = true
      · rw [if_pos d, if_pos d]
      · rw [if_neg d] at h; exact absurd rfl h
theorem dd_ok {op : Int} {sx ax sy ay : List Int} (h : bdD op sx ax sy ay = 0) : mayA sx ax = 0 ∧ mayA sy ay = 0 ∧ ddE op sx ax sy ay = if agrB sx sy = true then fe (dyR op sx ax sy ay) else 11 := by
  unfold bdD opD at h
  unfold ddE
  by_cases c : mayA sx ax ≠ 0
  · rw [if_pos c] at h; exact absurd h (by decide)
  · rw [if_neg c] at h
    by_cases c2 : mayA sy ay ≠ 0
    · rw [if_pos c2] at h; exact absurd h (by decide)
    · rw [if_neg c2] at h
      rw [if_neg (fun x => x.elim c c2)]
      by_cases d : lck (Nm.dE op 0 0) = true
      · rw [if_pos d] at h; exact absurd h (lck_ne d)
      · rw [if_neg d]; exact ⟨by simpa using c, by simpa using c2, rfl⟩
theorem wrapA (n : Int) (h : -9223372036854775808 ≤ n ∧ n ≤ 9223372036854775807) : IntKind.i64.wrap n = n := by rw [IntKind.wrap_i64]; omega

set_option maxHeartbeats 8000000 in
set_option maxRecDepth 20000 in
theorem rdy_any (op : Int) (so ao to bo : Option Addr) (sn sc an ac tn tc bn bc : Nat) (sx ax sy ay : List Int) (w : World) (h1 : Rd w so sn sx) (h2 : Rd w ao an ax) (h3 : Rd w to tn sy) (h4 : Rd w bo bn ay) :
    Calls Try.prog 19 #[.int .i64 op, .agg #[.slice so sn sc, .slice ao an ac], .agg #[.slice to tn tc, .slice bo bn bc]] w fun e w' => ∃ o1 n1 c1 o2 n2 c2, e = .returned (.tuple #[.agg #[.slice o1 n1 c1, .slice o2 n2 c2], .int .i64 (ddE op sx ax sy ay)]) ∧ Ft 3 w' w.heap.size o1 n1 c1 (ddS op sx ax sy ay) ∧ Ft 2 w' w.heap.size o2 n2 c2 (ddA op sx ax sy ay) ∧ Below w.heap.size w w' := by
  have I0 := dy_start w so sn sc ao an ac to tn tc bo bn bc sx ax sy ay h1 h2 h3 h4
  have kb := box_below (((w.alloc (.cells #[.slice so sn sc, .slice ao an ac] 30)).alloc (.cells #[.slice to tn tc, .slice bo bn bc] 30)).alloc (.cells #[.slice none 0 0, .slice none 0 0] 30)) (.cells #[.slice so sn sc, .slice ao an ac, .slice to tn tc, .slice bo bn bc] 30)
  have nb := allocNew (((w.alloc (.cells #[.slice so sn sc, .slice ao an ac] 30)).alloc (.cells #[.slice to tn tc, .slice bo bn bc] 30)).alloc (.cells #[.slice none 0 0, .slice none 0 0] 30)) (.cells #[.slice so sn sc, .slice ao an ac, .slice to tn tc, .slice bo bn bc] 30)
  have I1 := I0.below kb (Nat.le_refl _)
  rw [World.size_alloc, World.size_alloc, World.size_alloc] at nb
  have cB := bad2_any op _ so ao sn sc an ac sx ax to bo tn tc bn bc sy ay _ nb I1.s I1.a I1.t I1.b
  have cG := fun V (x : Rd V so sn sx) (y : Rd V to tn sy) => refAgree_any so to sn tn sc tc sx sy V x y
  by_cases hb : bdD op sx ax sy ay = 0
  · obtain ⟨my, my', hdd⟩ := dd_ok hb
    rw [hb] at cB
    by_cases ha : agrB sx sy = true
    · rw [if_pos ha] at hdd
      rw [show agrE sx sy = 0 by unfold agrE; rw [if_pos ha]] at cG
      obtain ⟨f1, f2, f3, f4, f5, f6, f7, f8, f9, fM⟩ := dy_facts my my' ha
      rw [h2.len] at f5
      rw [h4.len] at f6
      have HP : pr (agrL sx sy) = (dyN sx sy : Nat) := by have := prF_bd fM; unfold dyN; omega
      have cC := fun V co k c (x : Rd V co k (agrL sx sy)) => refCount_any co k c (agrL sx sy) V x fM
      rw [HP] at cC
      have HM : Hid (ddE op sx ax sy ay = fe (dyR op sx ax sy ay)) := hdd
      have HS : Hid (ddS op sx ax sy ay = onOk (fe (dyR op sx ax sy ay)) (agrL sx sy)) := by show _ = _; unfold ddS; rw [hdd]
      have HA : Hid (ddA op sx ax sy ay = onOk (fe (dyR op sx ax sy ay)) (dyL op sx ax sy ay)) := by show _ = _; unfold ddA; rw [hdd]
      have HF : Hid (∀ i, dyF op sx ax sy ay i = Nm.dN op (nth ax (i / dyB sx sy sx)) (nth ay (i / dyB sx sy sy))) := fun i => rfl
      have HG : Hid (∀ i, dyG op sx ax sy ay i = Nm.dE op (nth ax (i / dyB sx sy sx)) (nth ay (i / dyB sx sy sy))) := fun i => rfl
      have HR : Hid (dyR op sx ax sy ay = (List.range (dyN sx sy)).map (dyG op sx ax sy ay)) := rfl
      have HL : Hid (dyL op sx ax sy ay = (List.range (dyN sx sy)).map (dyF op sx ax sy ay)) := rfl
      generalize dyF op sx ax sy ay = F at *
      generalize dyG op sx ax sy ay = G at *
      generalize dyR op sx ax sy ay = R at *
      generalize dyL op sx ax sy ay = LL at *
      generalize agrL sx sy = L at *
      generalize dyB sx sy sx = X at *
      generalize dyB sx sy sy = Y at *
      generalize dyN sx sy = n at *
      have F5 : Hid (an * X = n) := f5
      have F6 : Hid (bn * Y = n) := f6
      have hxn : Hid (∀ k, k < an → Nm.inr (nth ax k) = true) := fun k hk => by rw [Nm.inr_iff]; exact h2.num k hk
      have hyn : Hid (∀ k, k < bn → Nm.inr (nth ay k) = true) := fun k hk => by rw [Nm.inr_iff]; exact h4.num k hk
      have aroom := h2.room
      have broom := h4.room
      clear hb hdd my my' kb nb f1 f2 f3 f4 f5 f6 fM HP ha
      go_enter Try.func19, Try.ntmps19
      go_wp2_with (first
        | (go_at_call 29; (with_reducible refine cB.mono ?_); rintro e W2 ⟨rfl, k2⟩; have I2 := I1.below k2 (Nat.le_refl _); have I2' := I2; obtain ⟨q0, q1, q2, q3, _, _, _, _, _, _⟩ := I2')
        | (go_at_call 31; (with_reducible refine (cG W2 I2.s I2.t).mono ?_); rintro e W3 ⟨lo, ln, lc, rfl, fl, k3⟩; have I3 := I2.below k3 (Nat.le_refl _); have rl := fl.rd)
        | (at_builtin; refine wpList_copy rfl _ _ rfl _ _ _ _ rfl rfl rl ?_; intro o3 c3 W4 f3 k4; have I4 := I3.below k4 (Nat.le_refl _); have kc := box_below W4 (.cells #[.slice o3 ln c3, .slice none 0 0] 30); have I5 := I4.below kc (Nat.le_refl _); have nq := allocNew W4 (.cells #[.slice o3 ln c3, .slice none 0 0] 30); have F4 := (Fr.ft f3).below kc (Nat.le_refl _); have rl5 := (rl.below k4 (Nat.le_refl _)).below kc (Nat.le_refl _))
        | (go_at_call 32; (with_reducible refine (cC _ _ _ _ rl5).mono ?_); rintro e W6 ⟨rfl, hW6⟩; subst hW6))
      have hq1 : w.heap.size + 1 + 1 < W4.heap.size := (Array.getElem?_eq_some_iff.1 I4.r).1
      have hq2 : W4.heap.size < (W4.alloc (.cells #[.slice o3 ln c3, .slice none 0 0] 30)).heap.size := by simp
      have w3s : w.heap.size ≤ W3.heap.size := I3.bel.size
      clear I0 I1 I2 I3 I4 q0 q1 q2 q3 rl rl5 cB cG cC kc k3 k4 k2 fl
      generalize W4.alloc (.cells #[.slice o3 ln c3, .slice none 0 0] 30) = C at *
      generalize W4.heap.size = q at *
      have G0 : Gw C C q o3 ln c3 none 0 0 (LL.take 0) := ⟨nq, Ft.nil _ _ _, ⟨rfl, rfl, rfl, Nat.le_refl _, fun _ _ _ => rfl⟩, hq2⟩
      have nqC : C.heap[q]? = some (.cells #[.slice o3 ln c3, .slice none 0 0] 30 (0, 0)) := nq
      clear nq
      go_loopw [13] (fun i V => ∃ (k : Nat) (o : Option Addr) (c : Nat), k ≤ n ∧ i = .int .i64 (k : Nat) ∧ Hid (∀ j, j < k → G j = 0) ∧ Gw C V q o3 ln c3 o k c (LL.take k)) (fun i _ => n - (intOf i).toNat)
      case atStart => exact ⟨0, none, 0, Nat.zero_le _, rfl, fun j hj => by omega, G0⟩
      case round =>
        clear G0
        obtain ⟨k, o, c, hk, rfl, HE, GW⟩ := hrel
        by_cases hlt : k < n
        · have X0 : 0 < X := Nat.pos_of_ne_zero (fun e => by have := F5.out; rw [e] at this; omega)
          have Y0 : 0 < Y := Nat.pos_of_ne_zero (fun e => by have := F6.out; rw [e] at this; omega)
          have a0 : 0 < an := Nat.pos_of_ne_zero (fun e => by have := F5.out; rw [e] at this; omega)
          have b0 : 0 < bn := Nat.pos_of_ne_zero (fun e => by have := F6.out; rw [e] at this; omega)
          have hq3 : k / X < an := (Nat.div_lt_iff_lt_mul X0).2 (by rw [F5.out]; exact hlt)
          have hq4 : k / Y < bn := (Nat.div_lt_iff_lt_mul Y0).2 (by rw [F6.out]; exact hlt)
          have HFk : F k = Nm.dN op (nth ax (k / X)) (nth ay (k / Y)) := HF.out k
          have HGk : G k = Nm.dE op (nth ax (k / X)) (nth ay (k / Y)) := HG.out k
          have d1 : (k : Int) / (X : Int) = ((k / X : Nat) : Int) := (Int.natCast_ediv _ _).symm
          have d2 : (k : Int) / (Y : Int) = ((k / Y : Nat) : Int) := (Int.natCast_ediv _ _).symm
          have d3 : (n : Int) / (an : Int) = (X : Int) := by rw [← Int.natCast_ediv, ← F5.out, Nat.mul_div_cancel_left _ a0]
          have d4 : (n : Int) / (bn : Int) = (Y : Int) := by rw [← Int.natCast_ediv, ← F6.out, Nat.mul_div_cancel_left _ b0]
          have bx := Nm.inr_iff.1 (Nm.inr_dN op (nth ax (k / X)) (nth ay (k / Y)) (hxn.out _ hq3) (hyn.out _ hq4))
          have DYA : ∀ V, Gw C V q o3 ln c3 o k c (LL.take k) → Dy w V so sn sc ao an ac to tn tc bo bn bc sx ax sy ay := fun V GV => I5.grown h1 h2 h3 h4 GV.g hq1
          obtain ⟨xb, xoff, hxo, hxb, hxc⟩ := h2.cells a0
          obtain ⟨yb, yoff, hyo, hyb, hyc⟩ := h4.cells b0
          have cx := hxc _ hq3
          have cy := hyc _ hq4
          have hfn : ∀ V, Calls Try.prog 33 #[.int .i64 op, .int .i64 (nth ax (k / X)), .int .i64 (nth ay (k / Y))] V fun e w' => e = .returned (.tuple #[.int .i64 (F k), .int .i64 (G k)]) ∧ ∃ m, w' = V.drewN m := by
            intro V
            rw [HFk, HGk]
            exact Nm.rdyad_any _ _ _ (hxn.out _ hq3) (hyn.out _ hq4) V
          have HT : Hid (LL.take k ++ [F k] = LL.take (k + 1)) := by
            show _ = _
            rw [HL.out, ← take_more (by simpa using hlt), nth_range hlt]
          rw [← HFk] at bx
          clear HFk HGk hxc hyc
          generalize k / X = p1 at *
          generalize k / Y = p2 at *
          have nx : ¬ X = 0 := by omega
          have ny : ¬ Y = 0 := by omega
          have na : ¬ an = 0 := by omega
          have nb : ¬ bn = 0 := by omega
          have wq1 : IntKind.i64.wrap ((k : Int) / (X : Int)) = (p1 : Int) := by rw [d1]; exact wrapA _ (by clear d1 d2 d3 d4; omega)
          have wq2 : IntKind.i64.wrap ((k : Int) / (Y : Int)) = (p2 : Int) := by rw [d2]; exact wrapA _ (by clear d1 d2 d3 d4; omega)
          have wq3 : IntKind.i64.wrap ((n : Int) / (an : Int)) = (X : Int) := by rw [d3]; exact wrapA _ (by clear d1 d2 d3 d4; omega)
          have wq4 : IntKind.i64.wrap ((n : Int) / (bn : Int)) = (Y : Int) := by rw [d4]; exact wrapA _ (by clear d1 d2 d3 d4; omega)
          clear d1 d2 d3 d4
          have t1 : decide ((k : Int) < (n : Int)) = true := by simp; omega
          have b1 : (p1 : Int) < (an : Int) := by omega
          have b2 : (p2 : Int) < (bn : Int) := by omega
          subst hxo hyo
          have al : ∀ V, Gw C V q o3 ln c3 o k c (LL.take k) → V.cell? ⟨w.heap.size, 1, none⟩ = some (.slice (some ⟨xb, xoff, none⟩) an ac) ∧ V.cell? ⟨w.heap.size + 1, 1, none⟩ = some (.slice (some ⟨yb, yoff, none⟩) bn bc) ∧ V.cell? ⟨xb, xoff + p1, none⟩ = some (.int .i64 (nth ax p1)) ∧ V.cell? ⟨yb, yoff + p2, none⟩ = some (.int .i64 (nth ay p2)) ∧ Gw C V q o3 ln c3 o k c (LL.take k) :=
            fun V r => ⟨(DYA V r).c1, (DYA V r).d1, ((DYA V r).bel.cell (p := ⟨xb, xoff + p1, none⟩) hxb).trans cx, ((DYA V r).bel.cell (p := ⟨yb, yoff + p2, none⟩) hyb).trans cy, r⟩
          by_cases he : G k = 0
          · have HE2 : Hid (G k = 0) := he
            rw [he] at hfn
            clear he
            generalize F k = v at *
            go_wp2
            go_region_held3 (fun V => V.cell? ⟨w.heap.size, 1, none⟩ = some (.slice (some ⟨xb, xoff, none⟩) an ac) ∧ V.cell? ⟨w.heap.size + 1, 1, none⟩ = some (.slice (some ⟨yb, yoff, none⟩) bn bc) ∧ V.cell? ⟨xb, xoff + p1, none⟩ = some (.int .i64 (nth ax p1)) ∧ V.cell? ⟨yb, yoff + p2, none⟩ = some (.int .i64 (nth ay p2)) ∧ Gw C V q o3 ln c3 o k c (LL.take k)) (first | exact al _ (by assumption) | exact al _ ((by assumption : Gw _ _ _ _ _ _ _ _ _ _).below (Below.refl _ _).drew))
              (first | (go_at_call 33; have HS9 := (‹_ ∧ _ ∧ _ ∧ _ ∧ Gw C _ q o3 ln c3 o k c (LL.take k)›).2.2.2.2; (with_reducible refine (hfn _).mono ?_); rintro e W7 ⟨rfl, m, hW7⟩; have G7 := HS9.below (below_drewN (Below.refl _ _) m); rw [← hW7] at G7; clear hW7))
            have F1 := newL W7 v bx.1 bx.2
            have kb := box_below W7 (.cells #[.int .i64 v] 2)
            have G8 := G7.below kb
            have hB8 : C.heap.size ≤ (W7.alloc (.cells #[.int .i64 v] 2)).heap.size := G8.g.size
            obtain ⟨y0, y1, _, _⟩ := box2 G7.a
            obtain ⟨x0, x1, _, _⟩ := box2 G8.a
            go_wp2_with (at_builtin; refine wpList_joinT tyL rfl _ _ rfl C.heap.size o (some ⟨W7.heap.size, 0, none⟩) k c 1 1 _ [v] rfl rfl G8.l F1.rd F1.sl (by omega) hB8 ?_; intro co3 cc3 W9 f9 b9; obtain ⟨z0, z1, _, _⟩ := box2 ((b9.block q hq2).trans G8.a))
            go_roundw
            case rel =>
              refine ⟨k + 1, co3, cc3, by omega, by go_num, fun j hj => ?_, ?_⟩
              · rcases Nat.lt_succ_iff_lt_or_eq.1 hj with h | h
                · exact HE.out j h
                · rw [h]; exact HE2.out
              · rw [← HT.out]; exact gw_step G8 b9 f9
            case measure => simp [intOf]; omega
          · have HE2 : Hid (G k ≠ 0) := he
            have he' : (G k != 0) = true := by simpa using he
            have hfe : Hid (fe R = G k) := by
              show _ = _
              rw [HR.out, fe_at _ k (by simpa using hlt) (fun j hj => by rw [nth_range (by omega)]; exact HE.out j hj) (by rw [nth_range hlt]; exact he), nth_range hlt]
            clear he
            go_wp2
            go_region_held3 (fun V => V.cell? ⟨w.heap.size, 1, none⟩ = some (.slice (some ⟨xb, xoff, none⟩) an ac) ∧ V.cell? ⟨w.heap.size + 1, 1, none⟩ = some (.slice (some ⟨yb, yoff, none⟩) bn bc) ∧ V.cell? ⟨xb, xoff + p1, none⟩ = some (.int .i64 (nth ax p1)) ∧ V.cell? ⟨yb, yoff + p2, none⟩ = some (.int .i64 (nth ay p2)) ∧ Gw C V q o3 ln c3 o k c (LL.take k)) (first | exact al _ (by assumption) | exact al _ ((by assumption : Gw _ _ _ _ _ _ _ _ _ _).below (Below.refl _ _).drew))
              (first | (go_at_call 33; have HS9 := (‹_ ∧ _ ∧ _ ∧ _ ∧ Gw C _ q o3 ln c3 o k c (LL.take k)›).2.2.2.2; (with_reducible refine (hfn _).mono ?_); rintro e W7 ⟨rfl, m, hW7⟩; have G7 := HS9.below (below_drewN (Below.refl _ _) m); rw [← hW7] at G7; clear hW7; have I8 := DYA _ G7; obtain ⟨y0, y1, _, _⟩ := box2 I8.r))
            go_wp2
            (try simp only [Exit.inBlock, Exit.then])
            refine bodyPost_ret (v := .tuple #[.agg #[.slice none 0 0, .slice none 0 0], .int .i64 (G k)]) (by rw [results_cell_tmp rfl]; go_simp) rfl ?_
            rw [HM.out, HS.out, HA.out, hfe.out, onOk_no HE2.out, onOk_no HE2.out]
            exact ⟨none, 0, 0, none, 0, 0, rfl, Ft.nil _ _ _, Ft.nil _ _ _, below_set2 _ _ _ _ I8.bel (by omega) (Nat.le_refl _)⟩
        · obtain rfl : k = n := by omega
          have IV := I5.grown h1 h2 h3 h4 GW.g hq1
          have hfe : Hid (fe R = 0) := by
            show _ = _
            rw [HR.out]
            exact fe_none _ (fun j hj => by simp only [List.length_map, List.length_range] at hj; rw [nth_range hj]; exact HE.out j hj)
          have HT : Hid (LL.take k = LL) := List.take_of_length_le (by rw [HL.out]; simp)
          have t1 : decide ((k : Int) < (k : Int)) = false := by simp
          obtain ⟨x0, x1, _, _⟩ := box2 GW.a
          obtain ⟨y0, y1, _, _⟩ := box2 IV.r
          have FS := F4.keep1 GW.g (fun j off e e' => ft_box F4 e nqC e')
          have FL := GW.l
          rw [HT.out] at FL
          have qc := hq2
          go_wp2
          (try simp only [Exit.inBlock, Exit.then])
          refine bodyPost_ret (v := .tuple #[.agg #[.slice o3 ln c3, .slice o k c], .int .i64 0]) (by rw [results_cell_tmp rfl]; go_simp) rfl ?_
          rw [HM.out, HS.out, HA.out, hfe.out, onOk_ok rfl, onOk_ok rfl]
          refine ⟨_, _, _, _, _, _, rfl, (FS.keep1 (set2 _ _ _ _ _ _) (fun j off e => ?_)).mono w3s, (FL.keep1 (set2 _ _ _ _ _ _) (fun j off e => ?_)).mono (by omega), below_set2 _ _ _ _ IV.bel (by omega) (Nat.le_refl _)⟩
          · intro e'; exact ft_box FS e IV.r e'
          · intro e'; exact ft_box FL e IV.r e'
    · rw [if_neg ha] at hdd
      rw [show agrE sx sy = 11 by unfold agrE; rw [if_neg ha]] at cG
      have HM : Hid (ddE op sx ax sy ay = 11) := hdd
      have HS : Hid (ddS op sx ax sy ay = []) := by show _ = _; unfold ddS; rw [hdd]; rfl
      have HA : Hid (ddA op sx ax sy ay = []) := by show _ = _; unfold ddA; rw [hdd]; rfl
      clear hb hdd my my' kb nb ha
      go_enter Try.func19, Try.ntmps19
      go_wp2_with (first
        | (go_at_call 29; (with_reducible refine cB.mono ?_); rintro e W2 ⟨rfl, k2⟩; have I2 := I1.below k2 (Nat.le_refl _); have I2' := I2; obtain ⟨q0, q1, q2, q3, _, _, _, _, _, _⟩ := I2')
        | (go_at_call 31; (with_reducible refine (cG W2 I2.s I2.t).mono ?_); rintro e W3 ⟨lo, ln, lc, rfl, fl, k3⟩; have I3 := I2.below k3 (Nat.le_refl _); obtain ⟨y0, y1, _, _⟩ := box2 I3.r))
      (try simp only [Exit.inBlock, Exit.then])
      refine bodyPost_ret (v := .tuple #[.agg #[.slice none 0 0, .slice none 0 0], .int .i64 11]) (by rw [results_cell_tmp rfl]; go_simp) rfl ?_
      rw [HM.out, HS.out, HA.out]
      exact ⟨none, 0, 0, none, 0, 0, rfl, Ft.nil _ _ _, Ft.nil _ _ _, below_set2 _ _ _ _ I3.bel (by omega) (Nat.le_refl _)⟩
  · have HM : Hid (ddE op sx ax sy ay = bdD op sx ax sy ay) := dd_bad hb
    have HS : Hid (ddS op sx ax sy ay = []) := by show _ = _; unfold ddS; rw [HM.out]; exact onOk_no hb _
    have HA : Hid (ddA op sx ax sy ay = []) := by show _ = _; unfold ddA; rw [HM.out]; exact onOk_no hb _
    have hb' : (bdD op sx ax sy ay != 0) = true := by simpa using hb
    generalize bdD op sx ax sy ay = E at *
    clear hb kb nb cG
    go_enter Try.func19, Try.ntmps19
    go_wp2_with (go_at_call 29; (with_reducible refine cB.mono ?_); rintro e W2 ⟨rfl, k2⟩; have I2 := I1.below k2 (Nat.le_refl _); obtain ⟨y0, y1, _, _⟩ := box2 I2.r)
    (try simp only [Exit.inBlock, Exit.then])
    refine bodyPost_ret (v := .tuple #[.agg #[.slice none 0 0, .slice none 0 0], .int .i64 E]) (by rw [results_cell_tmp rfl]; go_simp) rfl ?_
    rw [HM.out, HS.out, HA.out]
    exact ⟨none, 0, 0, none, 0, 0, rfl, Ft.nil _ _ _, Ft.nil _ _ _, below_set2 _ _ _ _ I2.bel (by omega) (Nat.le_refl _)⟩
end Go.Proofs.Ytpkednlfhdpdhaa
