
/- Contract of package digit: the digits of a number, the walk. -/

import Derived.Test.YtjnlkdeiccllgaaZK
import Derived.Test.YtjnlkdeiccllgaaMR


namespace Go.Proofs.Ytjnlkdeiccllgaa

open Go.RowKit Go.Shelf Go.Deep
attribute [local go_sem] Oper.semAt_some
set_option linter.unusedVariables false

theorem Ft.slotZ {e : TypeId} {w : World} {B g n c k : Nat} {zs : List Int} (h : Ft e w B (.some ⟨g, 0, none⟩) n c zs) (hk : k < n) : ∃ u, w.cell? ⟨g, k, none⟩ = .some u ∧ w.frozen? ⟨g, k, none⟩ = false := by
  obtain ⟨b, off, e, hb, hc⟩ := h.rd.cells (by omega)
  cases e
  have c := hc k hk
  rw [Nat.zero_add] at c
  rcases h.own.2 with ⟨e1, h0⟩ | ⟨g', c', cur, e1, hB2, hg, r⟩
  · cases e1
  · cases e1
    exact ⟨_, c, frozen_of_row w g k _ _ hg⟩
theorem Ft.allZ {e : TypeId} {w : World} {B g n : Nat} {zs : List Int} (h : Ft e w B (some ⟨g, 0, none⟩) n n zs) (f : Nat → Int) (hz : ∀ j, j < n → nth zs j = f j) : Ft e w B (some ⟨g, 0, none⟩) n n ((List.range n).map f) := by
  have e : zs = (List.range n).map f := ext_nth (by rw [h.rd.len]; simp) (fun k hk => by rw [h.rd.len] at hk; rw [hz k hk]; unfold nth; simp [hk])
  rw [← e]; exact h

set_option maxHeartbeats 4000000 in
set_option maxRecDepth 20000 in
theorem concat1_any (ao : Option Addr) (n ca vb : Nat) (zs : List Int) (w : World) (hv : w.heap[vb]? = some (.cells #[.slice ao n ca] 22 (0, 0))) (h : Rd w ao n zs) (hs : Sl ao n ca) (hn : n ≤ 5000) :
    Calls Try.prog 34 #[.slice (some ⟨vb, 0, none⟩) 1 1] w fun e w' => ∃ co c, e = .returned (.slice co n c) ∧ Ft 3 w' w.heap.size co n c zs ∧ Below w.heap.size w w' := by
  have x0 : w.cell? ⟨vb, 0, none⟩ = some (.slice ao n ca) := (cell_of_row w vb 0 _ _ (0, 0) hv).trans rfl
  have hvl := (Array.getElem?_eq_some_iff.1 hv).1
  have hg := grow_any n w (by omega)
  have w1 : IntKind.i64.wrap (n : Int) = (n : Int) := wrapIn _ (by omega)
  have t1 : decide ((n : Int) < 0) = false := by simp
  clear hv
  go_enter Try.func34, Try.ntmps34
  go_wp2
  refine wp_loop_rounds 2 ?_
  iterate 2 (rw [rounds_succ]; go_wp2_with (go_at_call 55; refine hg.mono ?_; rintro e w1 ⟨o1, c1, rfl, f1, b1⟩; have y0 := (b1.cell (p := ⟨vb, 0, none⟩) hvl).trans x0))
  refine wp_loop_rounds 2 ?_
  iterate 2 (rw [rounds_succ]; go_wp2_with (first
    | (at_builtin; refine wpList_joinT tyI rfl _ _ rfl w.heap.size o1 ao 0 c1 n ca [] zs rfl rfl f1 (h.below b1 (Nat.le_refl _)) hs (by omega) b1.size ?_; intro co2 c2 w2 f2 b2; rw [Nat.zero_add, List.nil_append] at f2; have b12 := b1.trans b2; have u0 := (b12.cell (p := ⟨vb, 0, none⟩) hvl).trans x0)))
  go_ret
  exact ⟨_, _, rfl, by simpa using f2, b12⟩

set_option maxRecDepth 100000 in
set_option maxHeartbeats 4000000 in
theorem toBase_ok (so ao uo bo : Option Addr) (sn sc an ac un uc bn bc : Nat) (sx ax ay : List Int) (r0 : Int) (w : World) (hx : Rd w so sn sx) (hsx : Sl so sn sc) (sn4 : sn ≤ 4096) (gx : Rd w ao an ax) (an4 : an ≤ 4096) (gy : Rd w bo bn ay) (hbn : 0 < bn) (hr0 : nth ay 0 = r0) (hok : ∀ k, k < an → tbO ax r0 k = 0) :
    Calls Try.prog 28 #[.agg #[.slice so sn sc, .slice ao an ac], .agg #[.slice uo un uc, .slice bo bn bc]] w fun e w' => AnsQ w (fun S A => S = sx ∧ A = (List.range an).map (tbD ax r0)) 0 e w' := by
  have hroom := gx.room
  have HL : Hid (ax.length = an) := gx.len
  have hin0 : Nm.inr r0 = true := by rw [← hr0]; exact Nm.inr_iff.2 (gy.num 0 hbn)
  have st := tb_start w so sn sc ao an ac uo un uc bo bn bc (tbD ax r0) (tbV ax r0) r0 hroom (tbV_end (by rw [HL.out]; exact Nat.le_refl _))
  have HQ : Hid (∀ k, k < an → tbO ax r0 k = 0) := hok
  obtain ⟨b0, off0, rfl, hb0, hc0⟩ := gy.cells hbn
  have cy := hc0 0 hbn
  rw [Nat.add_zero, hr0] at cy
  have k0 := box_below w (.cells #[.slice so sn sc, .slice ao an ac] 26)
  have k1 := box_below (w.alloc (.cells #[.slice so sn sc, .slice ao an ac] 26)) (.cells #[.slice uo un uc, .slice (some ⟨b0, off0, none⟩) bn bc] 26)
  have k2 := box_below ((w.alloc (.cells #[.slice so sn sc, .slice ao an ac] 26)).alloc (.cells #[.slice uo un uc, .slice (some ⟨b0, off0, none⟩) bn bc] 26)) (.cells #[.slice none 0 0, .slice none 0 0] 26)
  have k3 := box_below (((w.alloc (.cells #[.slice so sn sc, .slice ao an ac] 26)).alloc (.cells #[.slice uo un uc, .slice (some ⟨b0, off0, none⟩) bn bc] 26)).alloc (.cells #[.slice none 0 0, .slice none 0 0] 26)) (.cells #[.int .i64 0] 27)
  have k4 := box_below ((((w.alloc (.cells #[.slice so sn sc, .slice ao an ac] 26)).alloc (.cells #[.slice uo un uc, .slice (some ⟨b0, off0, none⟩) bn bc] 26)).alloc (.cells #[.slice none 0 0, .slice none 0 0] 26)).alloc (.cells #[.int .i64 0] 27)) (.cells (madeCells #[.int .i64 0] an) 2)
  have k5 := box_below (((((w.alloc (.cells #[.slice so sn sc, .slice ao an ac] 26)).alloc (.cells #[.slice uo un uc, .slice (some ⟨b0, off0, none⟩) bn bc] 26)).alloc (.cells #[.slice none 0 0, .slice none 0 0] 26)).alloc (.cells #[.int .i64 0] 27)).alloc (.cells (madeCells #[.int .i64 0] an) 2)) (.cells #[.slice (some ⟨w.heap.size + 1 + 1 + 1 + 1, 0, none⟩) an an] 24)
  simp only [World.size_alloc] at k1 k2 k3 k4 k5
  have bx := allocNew w (.cells #[.slice so sn sc, .slice ao an ac] 26)
  have by' := allocNew (w.alloc (.cells #[.slice so sn sc, .slice ao an ac] 26)) (.cells #[.slice uo un uc, .slice (some ⟨b0, off0, none⟩) bn bc] 26)
  simp only [World.size_alloc] at by'
  have x4 := box2 ((k3.block _ (by omega)).trans ((k2.block _ (by omega)).trans ((k1.block _ (by omega)).trans bx)))
  have x41 := x4.2.1
  have y6 := box2 ((k5.block _ (by omega)).trans ((k4.block _ (by omega)).trans ((k3.block _ (by omega)).trans ((k2.block _ (by omega)).trans by'))))
  have y61 := y6.2.1
  have kk6 := ((((k0.trans (k1.mono (by omega))).trans (k2.mono (by omega))).trans (k3.mono (by omega))).trans (k4.mono (by omega))).trans (k5.mono (by omega))
  have cy6 := (kk6.cell (p := ⟨b0, off0, none⟩) hb0).trans cy
  have k6 := box_below ((((((w.alloc (.cells #[.slice so sn sc, .slice ao an ac] 26)).alloc (.cells #[.slice uo un uc, .slice (some ⟨b0, off0, none⟩) bn bc] 26)).alloc (.cells #[.slice none 0 0, .slice none 0 0] 26)).alloc (.cells #[.int .i64 0] 27)).alloc (.cells (madeCells #[.int .i64 0] an) 2)).alloc (.cells #[.slice (some ⟨w.heap.size + 1 + 1 + 1 + 1, 0, none⟩) an an] 24)) (.cells #[.int .i64 r0] 2)
  simp only [World.size_alloc] at k6
  have x7 := box2 ((k6.block _ (by omega)).trans ((k5.block _ (by omega)).trans ((k4.block _ (by omega)).trans ((k3.block _ (by omega)).trans ((k2.block _ (by omega)).trans ((k1.block _ (by omega)).trans bx))))))
  have x71 := x7.2.1
  clear x4 y6 x7 bx by' kk6 cy k0 k1 k2 k3 k4 k5 k6 hc0 hr0
  have ban : (0 : Int) < (bn : Int) := by omega
  have hmk := run_make_row' (P := Try.prog) 24 2 (.int .i64 0) 8 Try.underlying24 infoL3 rfl .i64 .i64 an (by omega) (by omega)
  refine (callsIn_wide (n := 9)).1 ?_
  refine callsIn_of_wp_marks Try.func28 rfl trivial ?_ rfl
  simp only [Try.ntmps28, List.size_toArray, List.length_cons, List.length_nil, Nat.reduceAdd, Nat.reduceSub, Array.replicate_succ, Array.replicate_zero, List.push_toArray, List.append_toArray, List.nil_append, List.cons_append]
  gi_wp2_with (refine ⟨trivial, ?_⟩; gi_at_call 41; refine (backL _ _ _ _ _).mono ?_; rintro e w' ⟨rfl, rfl⟩)
  have hsz : ((((((((w.alloc (.cells #[.slice so sn sc, .slice ao an ac] 26)).alloc (.cells #[.slice uo un uc, .slice (some ⟨b0, off0, none⟩) bn bc] 26)).alloc (.cells #[.slice none 0 0, .slice none 0 0] 26)).alloc (.cells #[.int .i64 0] 27)).alloc (.cells (madeCells #[.int .i64 0] an) 2)).alloc (.cells #[.slice (some ⟨w.heap.size + 1 + 1 + 1 + 1, 0, none⟩) an an] 24)).alloc (.cells #[.int .i64 r0] 2)).alloc (.cells #[.slice ao an ac] 24)).heap.size = w.heap.size + 8 := by simp
  clear hmk x41 y61 x71 cy6
  generalize ((((((((w.alloc (.cells #[.slice so sn sc, .slice ao an ac] 26)).alloc (.cells #[.slice uo un uc, .slice (some ⟨b0, off0, none⟩) bn bc] 26)).alloc (.cells #[.slice none 0 0, .slice none 0 0] 26)).alloc (.cells #[.int .i64 0] 27)).alloc (.cells (madeCells #[.int .i64 0] an) 2)).alloc (.cells #[.slice (some ⟨w.heap.size + 1 + 1 + 1 + 1, 0, none⟩) an an] 24)).alloc (.cells #[.int .i64 r0] 2)).alloc (.cells #[.slice ao an ac] 24)) = W0 at *
  refine range_over (gf := 58) (lb := #[.pointer (some ⟨w.heap.size + 1 + 1 + 1 + 1 + 1 + 1 + 1, 0, none⟩)]) rfl (enters_of Try.func58 (by kernel_rfl) rfl) (TbI w so sn sc ao an ac (tbD ax r0) (tbV ax r0) 0) (fun _ _ => False) ?it ?done ?stop
  case stop => exact fun _ _ _ h => h.elim
  case done =>
    intro W hD hI
    have hDl : W0.heap.size < W.heap.size := (Array.getElem?_eq_some_iff.1 hD).1
    obtain ⟨q0, q1, _, _⟩ := box2 hI.x
    obtain ⟨p0, p1, p2, p3⟩ := box2 hI.r
    have cd := hI.d.cell
    have ce := hI.e.cell
    have ze := hI.e.frozen
    obtain ⟨zs, z1, z2⟩ := hI.row
    have z3 := z1.allZ (tbD ax r0) (fun j hj => z2 j (Nat.zero_le _) hj)
    have hxW := hx.below hI.bel (Nat.le_refl _)
    have gdr : ∀ U : World, U.grownBy U.drew none := fun U => ⟨rfl, rfl, rfl, Nat.le_refl _, fun _ _ _ => rfl⟩
    have cCc := concat1_any so sn sc W.heap.size sx (W.alloc (.cells #[.slice so sn sc] 22)).drew (allocNew W _) ((hxW.below (box_below W _) (Nat.le_refl _)).below (Below.refl _ _).drew (Nat.le_refl _)) hsx (by omega)
    have hI0 := hI.kept (gdr W) (by simp)
    have hI1 := (hI.kept (World.grownBy_alloc W (.cells #[.slice so sn sc] 22) none) (by simp)).kept (gdr _) (by simp)
    have al : ∀ U, TbI w so sn sc ao an ac (tbD ax r0) (tbV ax r0) 0 U → U.cell? ⟨w.heap.size, 0, none⟩ = some (.slice so sn sc) ∧ U.cell? ⟨w.heap.size + 1 + 1 + 1 + 1 + 1, 0, none⟩ = some (.slice (some ⟨w.heap.size + 1 + 1 + 1 + 1, 0, none⟩) an an) := fun U h => ⟨(box2 h.x).1, h.d.cell⟩
    have kW : Below W.heap.size W (W.alloc (.cells #[.slice so sn sc] 22)).drew := (box_below W _).drew
    gi_wp2
    refine wpIn_wide.2 ?_
    go_region_held3 (fun U => U.cell? ⟨w.heap.size, 0, none⟩ = some (.slice so sn sc) ∧ U.cell? ⟨w.heap.size + 1 + 1 + 1 + 1 + 1, 0, none⟩ = some (.slice (some ⟨w.heap.size + 1 + 1 + 1 + 1, 0, none⟩) an an)) (first | exact al _ hI0 | exact al _ hI1 | exact al _ hI5 | exact S6 | exact S7)
      (first
        | (go_at_call 34; (with_reducible refine cCc.mono ?_); rintro e w5 ⟨o5, c5, rfl, f5, k5⟩; have hI5 := hI1.kept (grown_of_below k5) (by simp); obtain ⟨p0', p1', p2', p3'⟩ := box2 hI5.r; have ce5 := hI5.e.cell; have ze5 := hI5.e.frozen; have kk := set2 w5 (w.heap.size + 1 + 1) 0 1 (.slice o5 sn c5) (.slice (some ⟨w.heap.size + 1 + 1 + 1 + 1, 0, none⟩) an an); have a1 := heap_setCell_same w5 (w.heap.size + 1 + 1) 0 _ 26 (.slice o5 sn c5) hI5.r; have a2 := heap_setCell_same _ (w.heap.size + 1 + 1) 1 _ 26 (.slice (some ⟨w.heap.size + 1 + 1 + 1 + 1, 0, none⟩) an an) a1; have xx := box2 ((kk.block _ (Array.getElem?_eq_some_iff.1 hI5.x).1 (some_ne (by omega))).trans hI5.x); have dd := (hI5.d.kept kk (some_ne (by omega))); have ee := (hI5.e.kept kk (some_ne (by omega))); have S6 : _ ∧ _ := ⟨xx.1, dd.cell⟩; have ce6 := ee.cell; have ze6 := ee.frozen; have kk2 := grownBy_setCell' ((w5.setCell ⟨w.heap.size + 1 + 1, 0, none⟩ (.slice o5 sn c5)).setCell ⟨w.heap.size + 1 + 1, 1, none⟩ (.slice (some ⟨w.heap.size + 1 + 1 + 1 + 1, 0, none⟩) an an)) (w.heap.size + 1 + 1 + 1) (.int .i64 0); have xx2 := box2 ((kk2.block _ (Nat.lt_of_lt_of_le (Array.getElem?_eq_some_iff.1 hI5.x).1 kk.size) (some_ne (by omega))).trans ((kk.block _ (Array.getElem?_eq_some_iff.1 hI5.x).1 (some_ne (by omega))).trans hI5.x)); have S7 : _ ∧ _ := ⟨xx2.1, (dd.kept kk2 (some_ne (by omega))).cell⟩; have rr2 := box2 ((kk2.block _ (Array.getElem?_eq_some_iff.1 a2).1 (some_ne (by omega))).trans (by simpa using a2)); have er2 := (ee.set (.int .i64 0)).cell))
    go_wp2
    gi_wp2
    have gK : w5.grownBy ((w5.setCell ⟨w.heap.size + 1 + 1, 0, none⟩ (.slice o5 sn c5)).setCell ⟨w.heap.size + 1 + 1, 1, none⟩ (.slice (some ⟨w.heap.size + 1 + 1 + 1 + 1, 0, none⟩) an an)) (some (w.heap.size + 1 + 1)) := kk
    have hD5 : w5.heap[W0.heap.size]? = some (.deferred (some [])) := (k5.block _ (by show W0.heap.size < (W.alloc (.cells #[.slice so sn sc] 22)).heap.size; simp; omega)).trans ((kW.block _ hDl).trans hD)
    have hDF := (kk2.block _ (Nat.lt_of_lt_of_le (Array.getElem?_eq_some_iff.1 hD5).1 kk.size) (some_ne (by omega))).trans ((kk.block _ (Array.getElem?_eq_some_iff.1 hD5).1 (some_ne (by omega))).trans hD5)
    rw [hsz] at hDF
    refine ⟨by simp, .inl ⟨_, _, rfl, run_takeDeferred hDF, ?_⟩⟩
    have rrh := (kk2.block _ (Array.getElem?_eq_some_iff.1 a2).1 (some_ne (by omega))).trans (show _ = some (.cells #[.slice o5 sn c5, .slice (some ⟨w.heap.size + 1 + 1 + 1 + 1, 0, none⟩) an an] 26 (0, 0)) by simpa using a2)
    have erh := ee.set (.int .i64 0)
    obtain ⟨ys, y1, y2⟩ := hI5.row
    have y3 := y1.allZ (tbD ax r0) (fun j hj => y2 j (Nat.zero_le _) hj)
    have y4 := (y3.keep1 kk (by intro b off e; cases e; exact some_ne (by omega))).keep1 kk2 (by intro b off e; cases e; exact some_ne (by omega))
    have fat := f5.at
    have sWd : W.heap.size + 1 = (W.alloc (.cells #[.slice so sn sc] 22)).drew.heap.size := by show _ = (W.alloc _).heap.size; simp
    have f6 := (f5.keep1 kk (by intro b off e; have := (fat b off e).1; exact some_ne (by omega))).keep1 kk2 (by intro b off e; have := (fat b off e).1; exact some_ne (by omega))
    have bF := (below_set2 0 1 (.slice o5 sn c5) (.slice (some ⟨w.heap.size + 1 + 1 + 1 + 1, 0, none⟩) an an) hI5.bel (show w.heap.size ≤ w.heap.size + 1 + 1 by omega) (Nat.le_refl _)).setCell (p := ⟨w.heap.size + 1 + 1 + 1, 0, none⟩) (by simp; omega) (.int .i64 0)
    generalize ((w5.setCell ⟨w.heap.size + 1 + 1, 0, none⟩ (.slice o5 sn c5)).setCell ⟨w.heap.size + 1 + 1, 1, none⟩ (.slice (some ⟨w.heap.size + 1 + 1 + 1 + 1, 0, none⟩) an an)).setCell ⟨w.heap.size + 1 + 1 + 1, 0, none⟩ (.int .i64 0) = F at *
    have gp := grownBy_putObj' F (w.heap.size + 8) (.deferred none)
    obtain ⟨u0, u1, _, _⟩ := box2 ((gp.block _ (Array.getElem?_eq_some_iff.1 rrh).1 (some_ne (by omega))).trans rrh)
    have u2 := (erh.kept gp (some_ne (by omega))).cell
    have f7 := f6.keep1 gp (by intro b off e; have := (fat b off e).1; exact some_ne (by omega))
    have y5 := y4.keep1 gp (by intro b off e; cases e; exact some_ne (by omega))
    have bZ := bF.grown gp bF.size (fun k e => by cases e; omega)
    generalize F.putObj (w.heap.size + 8) (.deferred none) = Z at *
    refine ⟨.tuple #[.agg #[.slice o5 sn c5, .slice (some ⟨w.heap.size + 1 + 1 + 1 + 1, 0, none⟩) an an], .int .i64 0], (by simp [results, Try.results28]; go_simp), ?_⟩
    exact ⟨_, _, _, _, _, _, _, _, rfl, f7.mono (by omega), y5.mono (by omega), ⟨rfl, rfl⟩, bZ⟩
  case it =>
    intro L l W eT eP eA eB eO el hr hb hs
    have hl1 : w.heap.size + 8 ≤ l := by omega
    have hl2 : ∀ k, some l = some k → w.heap.size + 8 ≤ k := fun k e => by cases e; exact hl1
    have hown : w.heap.size + 8 ≤ L.own := by omega
    have st1 := st.kept (grown_of_below hb) (by simp)
    clear el hs hb st eO
    refine (backL_any 8 l _ (by omega) ao an ac ax hroom (fun k W => L.is .ready none l W ∧ TbI w so sn sc ao an ac (tbD ax r0) (tbV ax r0) k W) (fun _ => False) ?hJ ?hY W ⟨hr, st1⟩).mono ?_
    case hJ =>
      rintro k W1 ⟨_, hi⟩
      exact ⟨hi.b.cell, gx.below hi.bel (Nat.le_refl _)⟩
    case hY =>
      rintro k W1 hk ⟨hr1, hi1⟩
      clear hr st1 W
      have hib : Nm.inr (nth ax k) = true := Nm.inr_iff.2 (gx.num k hk)
      have hiv : Nm.inr (tbV ax r0 (k + 1)) = true := inr_tbV hin0 _
      have cD := fun V => divided_any _ _ hiv hib V
      have e1 : dvQ (tbV ax r0 (k + 1)) (nth ax k) = tbV ax r0 k := (tbV_at (by rw [HL.out]; exact hk)).symm
      have e2 : dvL (tbV ax r0 (k + 1)) (nth ax k) = tbD ax r0 k := rfl
      have hfd := Nm.inr_iff.1 (inr_dvL hiv hib)
      rw [e2] at hfd
      have bk : (k : Int) < (an : Int) := by omega
      have e3 : dvE (tbV ax r0 (k + 1)) (nth ax k) = 0 := HQ.out k hk
      rw [e1, e2, e3] at cD
      clear hib hiv e1 e2 e3
      refine YieldAt.mono (yield_round (K := TbI w so sn sc ao an ac (tbD ax r0) (tbV ax r0) k) (X := fun _ _ => False) eT eP eA eB hr1 rfl ?_) ?_
      · clear eT eP eA eB
        gi_wp2
        refine ⟨hr1, fun W2 hr2 hg2 => ?_⟩
        have hi2 := hi1.kept hg2 hl2
        clear hg2 hi1 hr1
        have c1 := hi2.v.cell
        have z1 := hi2.v.frozen
        have c2 := hi2.d.cell
        obtain ⟨zs, f1, _⟩ := hi2.row
        obtain ⟨u, c3, z3⟩ := f1.slotZ hk
        clear f1
        have fin := hi2.step hk hfd.1 hfd.2 hr2 hl1 hown
        generalize tbV ax r0 (k + 1) = RV at *
        generalize tbV ax r0 k = RK at *
        generalize tbD ax r0 k = FK at *
        generalize nth ax k = BK at *
        gi_wp2_with (refine ⟨trivial, ?_⟩; gi_at_call 42; refine (callsIn_wide.2 (cD _)).mono ?_; rintro e w3 ⟨rfl, hw⟩; rw [hw]; clear hw w3)
        exact fin
      · rintro e W2 (⟨rfl, h1, h2⟩ | ⟨_, c, _, h⟩)
        · exact .inl ⟨rfl, h1, h2⟩
        · exact h.elim
    · rintro e W1 ⟨hv, (⟨hr1, hi1⟩ | hf)⟩
      · exact ⟨hv, .inl ⟨hr1, fun W2 hg => hi1.kept hg hl2⟩⟩
      · exact hf.elim

set_option maxRecDepth 100000 in
set_option maxHeartbeats 4000000 in
theorem toBase_bad (so ao uo bo : Option Addr) (sn sc an ac un uc bn bc : Nat) (sx ax ay : List Int) (r0 : Int) (w : World) (hx : Rd w so sn sx) (hsx : Sl so sn sc) (sn4 : sn ≤ 4096) (gx : Rd w ao an ax) (an4 : an ≤ 4096) (gy : Rd w bo bn ay) (hbn : 0 < bn) (hr0 : nth ay 0 = r0) (hbad : ∃ k, k < an ∧ tbO ax r0 k ≠ 0) :
    Calls Try.prog 28 #[.agg #[.slice so sn sc, .slice ao an ac], .agg #[.slice uo un uc, .slice bo bn bc]] w fun e w' => AnsQ w (fun S A => S = [] ∧ A = []) 14 e w' := by
  have hroom := gx.room
  have HL : Hid (ax.length = an) := gx.len
  have hin0 : Nm.inr r0 = true := by rw [← hr0]; exact Nm.inr_iff.2 (gy.num 0 hbn)
  have st := tb_start w so sn sc ao an ac uo un uc bo bn bc (tbD ax r0) (tbV ax r0) r0 hroom (tbV_end (by rw [HL.out]; exact Nat.le_refl _))
  have HQ : Hid (∃ k, k < an ∧ tbO ax r0 k ≠ 0) := hbad
  obtain ⟨b0, off0, rfl, hb0, hc0⟩ := gy.cells hbn
  have cy := hc0 0 hbn
  rw [Nat.add_zero, hr0] at cy
  have k0 := box_below w (.cells #[.slice so sn sc, .slice ao an ac] 26)
  have k1 := box_below (w.alloc (.cells #[.slice so sn sc, .slice ao an ac] 26)) (.cells #[.slice uo un uc, .slice (some ⟨b0, off0, none⟩) bn bc] 26)
  have k2 := box_below ((w.alloc (.cells #[.slice so sn sc, .slice ao an ac] 26)).alloc (.cells #[.slice uo un uc, .slice (some ⟨b0, off0, none⟩) bn bc] 26)) (.cells #[.slice none 0 0, .slice none 0 0] 26)
  have k3 := box_below (((w.alloc (.cells #[.slice so sn sc, .slice ao an ac] 26)).alloc (.cells #[.slice uo un uc, .slice (some ⟨b0, off0, none⟩) bn bc] 26)).alloc (.cells #[.slice none 0 0, .slice none 0 0] 26)) (.cells #[.int .i64 0] 27)
  have k4 := box_below ((((w.alloc (.cells #[.slice so sn sc, .slice ao an ac] 26)).alloc (.cells #[.slice uo un uc, .slice (some ⟨b0, off0, none⟩) bn bc] 26)).alloc (.cells #[.slice none 0 0, .slice none 0 0] 26)).alloc (.cells #[.int .i64 0] 27)) (.cells (madeCells #[.int .i64 0] an) 2)
  have k5 := box_below (((((w.alloc (.cells #[.slice so sn sc, .slice ao an ac] 26)).alloc (.cells #[.slice uo un uc, .slice (some ⟨b0, off0, none⟩) bn bc] 26)).alloc (.cells #[.slice none 0 0, .slice none 0 0] 26)).alloc (.cells #[.int .i64 0] 27)).alloc (.cells (madeCells #[.int .i64 0] an) 2)) (.cells #[.slice (some ⟨w.heap.size + 1 + 1 + 1 + 1, 0, none⟩) an an] 24)
  simp only [World.size_alloc] at k1 k2 k3 k4 k5
  have bx := allocNew w (.cells #[.slice so sn sc, .slice ao an ac] 26)
  have by' := allocNew (w.alloc (.cells #[.slice so sn sc, .slice ao an ac] 26)) (.cells #[.slice uo un uc, .slice (some ⟨b0, off0, none⟩) bn bc] 26)
  simp only [World.size_alloc] at by'
  have x4 := box2 ((k3.block _ (by omega)).trans ((k2.block _ (by omega)).trans ((k1.block _ (by omega)).trans bx)))
  have x41 := x4.2.1
  have y6 := box2 ((k5.block _ (by omega)).trans ((k4.block _ (by omega)).trans ((k3.block _ (by omega)).trans ((k2.block _ (by omega)).trans by'))))
  have y61 := y6.2.1
  have kk6 := ((((k0.trans (k1.mono (by omega))).trans (k2.mono (by omega))).trans (k3.mono (by omega))).trans (k4.mono (by omega))).trans (k5.mono (by omega))
  have cy6 := (kk6.cell (p := ⟨b0, off0, none⟩) hb0).trans cy
  have k6 := box_below ((((((w.alloc (.cells #[.slice so sn sc, .slice ao an ac] 26)).alloc (.cells #[.slice uo un uc, .slice (some ⟨b0, off0, none⟩) bn bc] 26)).alloc (.cells #[.slice none 0 0, .slice none 0 0] 26)).alloc (.cells #[.int .i64 0] 27)).alloc (.cells (madeCells #[.int .i64 0] an) 2)).alloc (.cells #[.slice (some ⟨w.heap.size + 1 + 1 + 1 + 1, 0, none⟩) an an] 24)) (.cells #[.int .i64 r0] 2)
  simp only [World.size_alloc] at k6
  have x7 := box2 ((k6.block _ (by omega)).trans ((k5.block _ (by omega)).trans ((k4.block _ (by omega)).trans ((k3.block _ (by omega)).trans ((k2.block _ (by omega)).trans ((k1.block _ (by omega)).trans bx))))))
  have x71 := x7.2.1
  clear x4 y6 x7 bx by' kk6 cy k0 k1 k2 k3 k4 k5 k6 hc0 hr0
  have ban : (0 : Int) < (bn : Int) := by omega
  have hmk := run_make_row' (P := Try.prog) 24 2 (.int .i64 0) 8 Try.underlying24 infoL3 rfl .i64 .i64 an (by omega) (by omega)
  refine (callsIn_wide (n := 9)).1 ?_
  refine callsIn_of_wp_marks Try.func28 rfl trivial ?_ rfl
  simp only [Try.ntmps28, List.size_toArray, List.length_cons, List.length_nil, Nat.reduceAdd, Nat.reduceSub, Array.replicate_succ, Array.replicate_zero, List.push_toArray, List.append_toArray, List.nil_append, List.cons_append]
  gi_wp2_with (refine ⟨trivial, ?_⟩; gi_at_call 41; refine (backL _ _ _ _ _).mono ?_; rintro e w' ⟨rfl, rfl⟩)
  have hsz : ((((((((w.alloc (.cells #[.slice so sn sc, .slice ao an ac] 26)).alloc (.cells #[.slice uo un uc, .slice (some ⟨b0, off0, none⟩) bn bc] 26)).alloc (.cells #[.slice none 0 0, .slice none 0 0] 26)).alloc (.cells #[.int .i64 0] 27)).alloc (.cells (madeCells #[.int .i64 0] an) 2)).alloc (.cells #[.slice (some ⟨w.heap.size + 1 + 1 + 1 + 1, 0, none⟩) an an] 24)).alloc (.cells #[.int .i64 r0] 2)).alloc (.cells #[.slice ao an ac] 24)).heap.size = w.heap.size + 8 := by simp
  clear hmk x41 y61 x71 cy6
  generalize ((((((((w.alloc (.cells #[.slice so sn sc, .slice ao an ac] 26)).alloc (.cells #[.slice uo un uc, .slice (some ⟨b0, off0, none⟩) bn bc] 26)).alloc (.cells #[.slice none 0 0, .slice none 0 0] 26)).alloc (.cells #[.int .i64 0] 27)).alloc (.cells (madeCells #[.int .i64 0] an) 2)).alloc (.cells #[.slice (some ⟨w.heap.size + 1 + 1 + 1 + 1, 0, none⟩) an an] 24)).alloc (.cells #[.int .i64 r0] 2)).alloc (.cells #[.slice ao an ac] 24)) = W0 at *
  refine range_over (gf := 58) (lb := #[.pointer (some ⟨w.heap.size + 1 + 1 + 1 + 1 + 1 + 1 + 1, 0, none⟩)]) rfl (enters_of Try.func58 (by kernel_rfl) rfl) (fun _ => False) (fun c W => c = .ret ∧ W.cell? ⟨w.heap.size + 1 + 1, 0, none⟩ = some (.slice none 0 0) ∧ W.cell? ⟨w.heap.size + 1 + 1, 1, none⟩ = some (.slice none 0 0) ∧ W.cell? ⟨w.heap.size + 1 + 1 + 1, 0, none⟩ = some (.int .i64 14) ∧ Below w.heap.size w W) ?it ?done ?stop
  case done => exact fun _ _ h => h.elim
  case stop =>
    rintro c W hD ⟨rfl, c1, c2, c3, hb⟩
    gi_wp2
    refine ⟨by simp, .inl ⟨_, _, rfl, run_takeDeferred hD, ?_⟩⟩
    have gp := grownBy_putObj' W (W0.heap.size) (.deferred none)
    have u0 := gp.cell c1 (some_ne (by show w.heap.size + 1 + 1 ≠ _; omega))
    have u1 := gp.cell c2 (some_ne (by show w.heap.size + 1 + 1 ≠ _; omega))
    have u2 := gp.cell c3 (some_ne (by show w.heap.size + 1 + 1 + 1 ≠ _; omega))
    have bZ := hb.grown gp hb.size (fun k e => by cases e; omega)
    generalize W.putObj (W0.heap.size) (.deferred none) = Z at *
    refine ⟨.tuple #[.agg #[.slice none 0 0, .slice none 0 0], .int .i64 14], (by simp [results, Try.results28]; go_simp), ?_⟩
    exact ret0 rfl bZ
  case it =>
    intro L l W eT eP eA eB eO el hr hb hs
    have hl1 : w.heap.size + 8 ≤ l := by omega
    have hl2 : ∀ k, some l = some k → w.heap.size + 8 ≤ k := fun k e => by cases e; exact hl1
    have hown : w.heap.size + 8 ≤ L.own := by omega
    have st1 := st.kept (grown_of_below hb) (by simp)
    clear el hs hb st eO
    refine (backL_any 8 l _ (by omega) ao an ac ax hroom (fun k W => L.is .ready none l W ∧ TbI w so sn sc ao an ac (tbD ax r0) (tbV ax r0) k W ∧ ∀ j, k ≤ j → j < an → tbO ax r0 j = 0) (fun W => ∃ c, L.is .done (some c) l W ∧ ∀ W2, W.grownBy W2 (some l) → c = .ret ∧ W2.cell? ⟨w.heap.size + 1 + 1, 0, none⟩ = some (.slice none 0 0) ∧ W2.cell? ⟨w.heap.size + 1 + 1, 1, none⟩ = some (.slice none 0 0) ∧ W2.cell? ⟨w.heap.size + 1 + 1 + 1, 0, none⟩ = some (.int .i64 14) ∧ Below w.heap.size w W2) ?hJ ?hY W ⟨hr, st1, fun j h1 h2 => by omega⟩).mono ?_
    case hJ =>
      rintro k W1 ⟨_, hi, _⟩
      exact ⟨hi.b.cell, gx.below hi.bel (Nat.le_refl _)⟩
    case hY =>
      rintro k W1 hk ⟨hr1, hi1, hz1⟩
      clear hr st1 W
      have hib : Nm.inr (nth ax k) = true := Nm.inr_iff.2 (gx.num k hk)
      have hiv : Nm.inr (tbV ax r0 (k + 1)) = true := inr_tbV hin0 _
      have cD := fun V => divided_any _ _ hiv hib V
      have e1 : dvQ (tbV ax r0 (k + 1)) (nth ax k) = tbV ax r0 k := (tbV_at (by rw [HL.out]; exact hk)).symm
      have e2 : dvL (tbV ax r0 (k + 1)) (nth ax k) = tbD ax r0 k := rfl
      have hfd := Nm.inr_iff.1 (inr_dvL hiv hib)
      rw [e2] at hfd
      have bk : (k : Int) < (an : Int) := by omega
      have HZ : Hid (∀ j, k + 1 ≤ j → j < an → tbO ax r0 j = 0) := hz1
      clear hz1
      by_cases e3 : tbO ax r0 k = 0
      · have e3' : dvE (tbV ax r0 (k + 1)) (nth ax k) = 0 := e3
        have HE : Hid (tbO ax r0 k = 0) := e3
        rw [e1, e2, e3'] at cD
        clear hib hiv e1 e2 e3' e3
        refine YieldAt.mono (yield_round (K := TbI w so sn sc ao an ac (tbD ax r0) (tbV ax r0) k) (X := fun _ _ => False) eT eP eA eB hr1 rfl ?_) ?_
        · clear eT eP eA eB
          gi_wp2
          refine ⟨hr1, fun W2 hr2 hg2 => ?_⟩
          have hi2 := hi1.kept hg2 hl2
          clear hg2 hi1 hr1
          have c1 := hi2.v.cell
          have z1 := hi2.v.frozen
          have c2 := hi2.d.cell
          obtain ⟨zs, f1, _⟩ := hi2.row
          obtain ⟨u, c3, z3⟩ := f1.slotZ hk
          clear f1
          have fin := hi2.step hk hfd.1 hfd.2 hr2 hl1 hown
          generalize tbV ax r0 (k + 1) = RV at *
          generalize tbV ax r0 k = RK at *
          generalize tbD ax r0 k = FK at *
          generalize nth ax k = BK at *
          gi_wp2_with (refine ⟨trivial, ?_⟩; gi_at_call 42; refine (callsIn_wide.2 (cD _)).mono ?_; rintro e w3 ⟨rfl, hw⟩; rw [hw]; clear hw w3)
          exact fin
        · rintro e W2 (⟨rfl, h1, h2⟩ | ⟨_, c, _, h⟩)
          · exact .inl ⟨rfl, h1, h2, fun j a b => by
              by_cases e : j = k
              · rw [e]; exact HE.out
              · exact HZ.out j (by omega) b⟩
          · exact h.elim
      · have e3' : dvE (tbV ax r0 (k + 1)) (nth ax k) = 14 := (dvE_two _ _).resolve_left e3
        rw [e1, e2, e3'] at cD
        clear hib hiv e1 e2 e3' e3 HZ
        refine YieldAt.mono (yield_round (K := fun _ => False) (X := (fun c W => c = .ret ∧ W.cell? ⟨w.heap.size + 1 + 1, 0, none⟩ = some (.slice none 0 0) ∧ W.cell? ⟨w.heap.size + 1 + 1, 1, none⟩ = some (.slice none 0 0) ∧ W.cell? ⟨w.heap.size + 1 + 1 + 1, 0, none⟩ = some (.int .i64 14) ∧ Below w.heap.size w W)) eT eP eA eB hr1 rfl ?_) ?_
        · clear eT eP eA eB
          gi_wp2
          refine ⟨hr1, fun W2 hr2 hg2 => ?_⟩
          have hi2 := hi1.kept hg2 hl2
          clear hg2 hi1 hr1
          have c1 := hi2.v.cell
          obtain ⟨p0, p1, p2, p3⟩ := box2 hi2.r
          have ce := hi2.e.cell
          have ze := hi2.e.frozen
          have kk := set2 W2 (w.heap.size + 1 + 1) 0 1 (.slice none 0 0) (.slice none 0 0)
          have a1 := heap_setCell_same W2 (w.heap.size + 1 + 1) 0 _ 26 (.slice none 0 0) hi2.r
          have a2 := heap_setCell_same _ (w.heap.size + 1 + 1) 1 _ 26 (.slice none 0 0) a1
          have ee := hi2.e.kept kk (some_ne (by omega))
          have ce6 := ee.cell
          have ze6 := ee.frozen
          have kk2 := grownBy_setCell' ((W2.setCell ⟨w.heap.size + 1 + 1, 0, none⟩ (.slice none 0 0)).setCell ⟨w.heap.size + 1 + 1, 1, none⟩ (.slice none 0 0)) (w.heap.size + 1 + 1 + 1) (.int .i64 14)
          have rrh := (kk2.block _ (Array.getElem?_eq_some_iff.1 a2).1 (some_ne (by omega))).trans (show _ = some (.cells #[.slice none 0 0, .slice none 0 0] 26 (0, 0)) by simpa using a2)
          have erh := ee.set (.int .i64 14)
          have bF := (below_set2 0 1 (.slice none 0 0) (.slice none 0 0) hi2.bel (show w.heap.size ≤ w.heap.size + 1 + 1 by omega) (Nat.le_refl _)).setCell (p := ⟨w.heap.size + 1 + 1 + 1, 0, none⟩) (by simp; omega) (.int .i64 14)
          have rL := (hr2.kept kk (some_ne (by omega)) (some_ne (by omega))).kept kk2 (some_ne (by omega)) (some_ne (by omega))
          have fin : ∀ W', (((W2.setCell ⟨w.heap.size + 1 + 1, 0, none⟩ (.slice none 0 0)).setCell ⟨w.heap.size + 1 + 1, 1, none⟩ (.slice none 0 0)).setCell ⟨w.heap.size + 1 + 1 + 1, 0, none⟩ (.int .i64 14)).grownBy W' (some l) → W'.cell? ⟨w.heap.size + 1 + 1, 0, none⟩ = some (.slice none 0 0) ∧ W'.cell? ⟨w.heap.size + 1 + 1, 1, none⟩ = some (.slice none 0 0) ∧ W'.cell? ⟨w.heap.size + 1 + 1 + 1, 0, none⟩ = some (.int .i64 14) ∧ Below w.heap.size w W' := fun W' hg => by
            obtain ⟨u0, u1, _, _⟩ := box2 ((hg.block _ (Array.getElem?_eq_some_iff.1 rrh).1 (some_ne (by omega))).trans rrh)
            exact ⟨u0, u1, (erh.kept hg (some_ne (by omega))).cell, bF.grown hg bF.size (fun k e => by cases e; omega)⟩
          clear a1 a2 kk kk2 rrh erh bF ee
          generalize tbV ax r0 (k + 1) = RV at *
          generalize tbV ax r0 k = RK at *
          generalize tbD ax r0 k = FK at *
          generalize nth ax k = BK at *
          gi_wp2_with (refine ⟨trivial, ?_⟩; gi_at_call 42; refine (callsIn_wide.2 (cD _)).mono ?_; rintro e w3 ⟨rfl, hw⟩; rw [hw]; clear hw w3)
          exact ⟨rL, fun W' hg => ⟨rfl, fin W' hg⟩⟩
        · rintro e W2 (⟨_, _, h⟩ | ⟨rfl, c, h1, h2⟩)
          · exact h.elim
          · refine .inr ⟨rfl, c, h1, fun W3 hg => ?_⟩
            obtain ⟨e1, e2, e3, e4, e5⟩ := h2
            exact ⟨e1, hg.cell e2 (some_ne (by show w.heap.size + 1 + 1 ≠ _; omega)), hg.cell e3 (some_ne (by show w.heap.size + 1 + 1 ≠ _; omega)), hg.cell e4 (some_ne (by show w.heap.size + 1 + 1 + 1 ≠ _; omega)), e5.grown hg e5.size (fun k e => by cases e; omega)⟩
    · rintro e W1 ⟨hv, (⟨hr1, hi1, hz⟩ | ⟨c, h1, h2⟩)⟩
      · obtain ⟨q, q1, q2⟩ := HQ.out
        exact absurd (hz q (Nat.zero_le _) q1) q2
      · exact ⟨hv, .inr ⟨c, h1, h2⟩⟩
end Go.Proofs.Ytjnlkdeiccllgaa
