
/- The document's answers for package seek: found. -/

import Derived.Test.YtmepcenbaohcoaaGreatRSe

import Derived.Test.YtmepcenbaohcoaaGreatRSg

import Derived.Deep.DeepCutAuto

namespace Go.Proofs.YtmepcenbaohcoaaGreat

open Go.RowKit

set_option linter.unusedVariables false

theorem bgA {B : Nat} {W V : World} (o : Obj) (h : Below B W V) (hB : B ≤ W.heap.size) : Below B W (V.alloc o) := h.trans ((box_below V o).mono (Nat.le_trans hB h.size))
theorem bgS {B b i : Nat} {W V : World} (v : Value) (h : Below B W V) (hB : B ≤ b) : Below B W (V.setCell ⟨b, i, none⟩ v) := h.setCell (p := ⟨b, i, none⟩) hB v
set_option maxHeartbeats 8000000 in
set_option maxRecDepth 20000 in
theorem refCells7 (so ao uo bo : Option Addr) (sn sc an ac tn tc bn bc p N : Nat) (fs : List Int) (xs : Nat → List Int × List Int) (w : World)
    (HO : ∀ V, Below w.heap.size w V → Calls Tryz.prog 78 #[.agg #[.slice uo tn tc, .slice bo bn bc], .int .i64 ((sn - 1 : Nat) : Int)] V fun e w' => ∃ fo fc go gc l1 m1 d1 l2 m2 d2, e = .returned (.tuple #[.agg #[.slice fo p fc, .slice go N gc, .slice l1 m1 d1, .slice l2 m2 d2], .int .i64 0]) ∧ Ft 3 w' V.heap.size fo p fc fs ∧ Gv w' V.heap.size go N gc xs ∧ Below V.heap.size V w')
    (HR : ∀ V, Below w.heap.size w V → Calls Tryz.prog 52 #[.agg #[.slice so sn sc, .slice ao an ac]] V fun e w' => ∃ o c, e = .returned (.slice o (sn - 1) c) ∧ Below V.heap.size V w') :
    Calls Tryz.prog 55 #[.agg #[.slice uo tn tc, .slice bo bn bc], .agg #[.slice so sn sc, .slice ao an ac]] w fun e w' => ∃ fo fc go gc l1 m1 d1 l2 m2 d2, e = .returned (.agg #[.slice fo p fc, .slice go N gc, .slice l1 m1 d1, .slice l2 m2 d2]) ∧ Ft 3 w' w.heap.size fo p fc fs ∧ Gv w' w.heap.size go N gc xs ∧ Below w.heap.size w w' := by
  have ka := box_below w (.cells #[.slice uo tn tc, .slice bo bn bc] 30)
  have na := allocNew w (.cells #[.slice uo tn tc, .slice bo bn bc] 30)
  have kx := box_below (w.alloc (.cells #[.slice uo tn tc, .slice bo bn bc] 30)) (.cells #[.slice so sn sc, .slice ao an ac] 30)
  have nx := allocNew (w.alloc (.cells #[.slice uo tn tc, .slice bo bn bc] 30)) (.cells #[.slice so sn sc, .slice ao an ac] 30)
  have kr := box_below ((w.alloc (.cells #[.slice uo tn tc, .slice bo bn bc] 30)).alloc (.cells #[.slice so sn sc, .slice ao an ac] 30)) (.cells #[.slice none 0 0, .slice none 0 0, .slice none 0 0, .slice none 0 0] 74)
  have nr := allocNew ((w.alloc (.cells #[.slice uo tn tc, .slice bo bn bc] 30)).alloc (.cells #[.slice so sn sc, .slice ao an ac] 30)) (.cells #[.slice none 0 0, .slice none 0 0, .slice none 0 0, .slice none 0 0] 74)
  simp only [World.size_alloc] at nx nr
  have na1 := (kx.block w.heap.size (by simp)).trans na
  have na2 := (kr.block w.heap.size (by simp; omega)).trans na1
  have nx2 := (kr.block (w.heap.size + 1) (by simp)).trans nx
  have k2 := ka.trans (kx.mono ka.size)
  have k3 := k2.trans (kr.mono k2.size)
  have hsz : (((w.alloc (.cells #[.slice uo tn tc, .slice bo bn bc] 30)).alloc (.cells #[.slice so sn sc, .slice ao an ac] 30)).alloc (.cells #[.slice none 0 0, .slice none 0 0, .slice none 0 0, .slice none 0 0] 74)).heap.size = w.heap.size + 1 + 1 + 1 := by simp
  have HSZ : Hid ((((w.alloc (.cells #[.slice uo tn tc, .slice bo bn bc] 30)).alloc (.cells #[.slice so sn sc, .slice ao an ac] 30)).alloc (.cells #[.slice none 0 0, .slice none 0 0, .slice none 0 0, .slice none 0 0] 74)).heap.size = w.heap.size + 1 + 1 + 1) := hsz
  clear ka na kx nx kr na1 k2 hsz
  go_enter Tryz.func55, Tryz.ntmps55
  go_wp2
  have hsz := HSZ.out
  clear HSZ
  generalize ((w.alloc (.cells #[.slice uo tn tc, .slice bo bn bc] 30)).alloc (.cells #[.slice so sn sc, .slice ao an ac] 30)).alloc (.cells #[.slice none 0 0, .slice none 0 0, .slice none 0 0, .slice none 0 0] 74) = W at *
  have AL : ∀ V, Below W.heap.size W V → V.cell? ⟨w.heap.size, 0, none⟩ = some (.slice uo tn tc) ∧ V.cell? ⟨w.heap.size, 1, none⟩ = some (.slice bo bn bc) ∧ V.cell? ⟨w.heap.size + 1, 0, none⟩ = some (.slice so sn sc) ∧ V.cell? ⟨w.heap.size + 1, 1, none⟩ = some (.slice ao an ac) ∧ Below W.heap.size W V := fun V kk => by
    obtain ⟨a0, a1, _, _⟩ := box2 ((kk.block w.heap.size (by omega)).trans na2)
    obtain ⟨c0, c1, _, _⟩ := box2 ((kk.block (w.heap.size + 1) (by omega)).trans nx2)
    exact ⟨a0, a1, c0, c1, kk⟩
  have cR : ∀ V, Below W.heap.size W V → Calls Tryz.prog 52 #[.agg #[.slice so sn sc, .slice ao an ac]] V fun e w' => ∃ o c, e = .returned (.slice o (sn - 1) c) ∧ Below W.heap.size W w' ∧ Below V.heap.size V w' := fun V kk => by
    refine (HR V (k3.trans (kk.mono k3.size))).mono ?_
    rintro e w' ⟨o, c, rfl, k5⟩
    exact ⟨o, c, rfl, kk.trans (k5.mono kk.size), k5⟩
  have cO : ∀ V, Below W.heap.size W V → Calls Tryz.prog 78 #[.agg #[.slice uo tn tc, .slice bo bn bc], .int .i64 ((sn - 1 : Nat) : Int)] V fun e w' => ∃ fo fc go gc l1 m1 d1 l2 m2 d2, e = .returned (.tuple #[.agg #[.slice fo p fc, .slice go N gc, .slice l1 m1 d1, .slice l2 m2 d2], .int .i64 0]) ∧ Ft 3 w' W.heap.size fo p fc fs ∧ Gv w' W.heap.size go N gc xs ∧ Below W.heap.size W w' ∧ Below V.heap.size V w' := fun V kk => by
    refine (HO V (k3.trans (kk.mono k3.size))).mono ?_
    rintro e w' ⟨fo, fc, go, gc, l1, m1, d1, l2, m2, d2, rfl, f1, f2, k5⟩
    exact ⟨fo, fc, go, gc, l1, m1, d1, l2, m2, d2, rfl, f1.mono kk.size, gv_mono f2 kk.size, kk.trans (k5.mono kk.size), k5⟩
  have HRB : Hid (W.heap[w.heap.size + 1 + 1]? = some (.cells #[.slice none 0 0, .slice none 0 0, .slice none 0 0, .slice none 0 0] 74 (0, 0))) := nr
  have HK3 : Hid (Below w.heap.size w W) := k3
  have B0 : Below W.heap.size W W := Below.refl _ _
  have hsW : w.heap.size + 1 + 1 < W.heap.size := by omega
  clear hsz nr k3 na2 nx2 HO HR
  go_cut [5, 6] (fun b e V => ∃ q fo fc go gc l1 m1 d1 l2 m2 d2, b = .pointer (some ⟨q, 0, none⟩) ∧ (V.cell? ⟨q, 0, none⟩ = some (.slice fo p fc) ∧ V.cell? ⟨q, 1, none⟩ = some (.slice go N gc) ∧ V.cell? ⟨q, 2, none⟩ = some (.slice l1 m1 d1) ∧ V.cell? ⟨q, 3, none⟩ = some (.slice l2 m2 d2)) ∧ Ft 3 V W.heap.size fo p fc fs ∧ Gv V W.heap.size go N gc xs ∧ Below W.heap.size W V)
  case first =>
    go_region_held3 (fun V => V.cell? ⟨w.heap.size, 0, none⟩ = some (.slice uo tn tc) ∧ V.cell? ⟨w.heap.size, 1, none⟩ = some (.slice bo bn bc) ∧ V.cell? ⟨w.heap.size + 1, 0, none⟩ = some (.slice so sn sc) ∧ V.cell? ⟨w.heap.size + 1, 1, none⟩ = some (.slice ao an ac) ∧ Below W.heap.size W V) (exact AL _ (by repeat (first | assumption | exact Below.refl _ _ | refine Below.drew ?_ | refine bgA _ ?_ (Nat.le_refl _) | refine bgS _ ?_ (by first | exact Nat.le_refl _ | exact k1.size | exact k2.size))))
      (first
        | (go_at_call 52; (with_reducible refine (cR (W.alloc (.cells #[.slice none 0 0, .slice none 0 0, .slice none 0 0, .slice none 0 0] 74)).drew (bgA _ B0 (Nat.le_refl _)).drew).mono ?_); rintro e V1 ⟨ro, rc, rfl, k1, k1'⟩; have nb1 := (k1'.block W.heap.size (show W.heap.size < (W.alloc (.cells #[.slice none 0 0, .slice none 0 0, .slice none 0 0, .slice none 0 0] 74)).heap.size by simp)).trans (allocNew W (.cells #[.slice none 0 0, .slice none 0 0, .slice none 0 0, .slice none 0 0] 74)))
        | (go_at_call 52; (with_reducible refine (cR W.drew B0.drew).mono ?_); rintro e V1 ⟨ro, rc, rfl, k1, k1'⟩)
        | (go_at_call 78; (with_reducible refine (cO V1 k1).mono ?_); rintro e V2 ⟨fo, fc, go, gc, l1, m1, d1, l2, m2, d2, rfl, f1, f2, k2, k2'⟩; have nb2 := (k2'.block W.heap.size (Array.getElem?_eq_some_iff.1 nb1).1).trans nb1; obtain ⟨⟨x0, x1, x2, x3⟩, xf⟩ := box4r nb2; have x9 := xf 0; have x8 := xf 1; have x7 := xf 2; have x6 := xf 3)
        | (go_at_call 78; (with_reducible refine (cO (V1.alloc (.cells #[.slice none 0 0, .slice none 0 0, .slice none 0 0, .slice none 0 0] 74)) (bgA _ k1 (Nat.le_refl _))).mono ?_); rintro e V2 ⟨fo, fc, go, gc, l1, m1, d1, l2, m2, d2, rfl, f1, f2, k2, k2'⟩; have nb2 := (k2'.block V1.heap.size (by simp)).trans (allocNew V1 (.cells #[.slice none 0 0, .slice none 0 0, .slice none 0 0, .slice none 0 0] 74)); obtain ⟨⟨x0, x1, x2, x3⟩, xf⟩ := box4r nb2; have x9 := xf 0; have x8 := xf 1; have x7 := xf 2; have x6 := xf 3)
        | (go_at_call 78; (with_reducible refine (cO V1 k1).mono ?_); rintro e V2 ⟨fo, fc, go, gc, l1, m1, d1, l2, m2, d2, rfl, f1, f2, k2, k2'⟩))
    all_goals
      go_wp2
      go_meet
      case rel =>
        first
          | (refine ⟨W.heap.size, fo, fc, go, gc, l1, m1, d1, l2, m2, d2, rfl, ⟨?_, ?_, ?_, ?_⟩, f1.kind (set4 V2 W.heap.size _ _ _ _) nb2 (by decide), f2.kind (set4 V2 W.heap.size _ _ _ _) nb2 (by decide) (by decide) (by decide), bgS _ (bgS _ (bgS _ (bgS _ k2 (Nat.le_refl _)) (Nat.le_refl _)) (Nat.le_refl _)) (Nat.le_refl _)⟩ <;> go_simp)
          | (refine ⟨V1.heap.size, fo, fc, go, gc, l1, m1, d1, l2, m2, d2, rfl, ⟨?_, ?_, ?_, ?_⟩, f1.kind (set4 V2 V1.heap.size _ _ _ _) nb2 (by decide), f2.kind (set4 V2 V1.heap.size _ _ _ _) nb2 (by decide) (by decide) (by decide), bgS _ (bgS _ (bgS _ (bgS _ k2 k1.size) k1.size) k1.size) k1.size⟩ <;> go_simp)
          | (refine ⟨V2.heap.size, fo, fc, go, gc, l1, m1, d1, l2, m2, d2, rfl, ⟨?_, ?_, ?_, ?_⟩, f1.below (box_below V2 _) (Nat.le_refl _), f2.below (box_below V2 _) (Nat.le_refl _), bgA _ k2 (Nat.le_refl _)⟩ <;> go_simp)
  case rest =>
    obtain ⟨q, fo, fc, go, gc, l1, m1, d1, l2, m2, d2, rfl, ⟨c0, c1, c2, c3⟩, f1, f2, kc⟩ := hcut
    have rV := (kc.block (w.heap.size + 1 + 1) hsW).trans HRB.out
    obtain ⟨⟨x0, x1, x2, x3⟩, xf⟩ := box4r rV
    have x9 := xf 0
    have x8 := xf 1
    have x7 := xf 2
    have x6 := xf 3
    go_wp2
    (try simp only [Exit.inBlock, Exit.then])
    refine bodyPost_ret (v := .agg #[.slice fo p fc, .slice go N gc, .slice l1 m1 d1, .slice l2 m2 d2]) (by simp [results, Tryz.results55]; go_simp) rfl ?_
    have st := set4 wc (w.heap.size + 1 + 1) (.slice fo p fc) (.slice go N gc) (.slice l1 m1 d1) (.slice l2 m2 d2)
    have kw : Below w.heap.size w wc := HK3.out.trans (kc.mono HK3.out.size)
    exact ⟨fo, fc, go, gc, _, _, _, _, _, _, rfl, (f1.kind st rV (by decide)).mono HK3.out.size, gv_mono (f2.kind st rV (by decide) (by decide) (by decide)) HK3.out.size, kw.grown st kw.size (fun k e => by cases e; omega)⟩
end Go.Proofs.YtmepcenbaohcoaaGreat

namespace Go.Proofs.YtmepcenbaohcoaaGreat

open Go.RowKit

set_option linter.unusedVariables false

theorem mayF_dropS {sh : List Int} (h : mayF sh = 0) : ∀ p, mayF (sh.drop p) = 0
  | 0 => h
  | p + 1 => by have := mayF_tail (mayF_dropS h p); rwa [List.drop_drop] at this
theorem gv_as {W : World} {B : Nat} {go : Option Addr} {n gc : Nat} {xs : Nat → List Int × List Int} (h : Gv W B go n gc xs) (hn : n ≤ 5000) : AsQ W go n xs := by
  refine ⟨by omega, fun h0 => ?_⟩
  obtain ⟨cs, ow, hel⟩ := h.own
  rcases ow.2 with ⟨e1, h0'⟩ | ⟨g, c, cur, e1, hB2, hg2, r⟩
  · omega
  · cases e1
    refine ⟨g, 0, rfl, (Array.getElem?_eq_some_iff.1 hg2).1, fun k hk => ?_⟩
    obtain ⟨a1, a2, a3, a4, a5, a6, q1, q2, q3, q4⟩ := hel k hk
    have b1 := ow.cells (g := g) rfl _ _ q1
    have b2 := ow.cells (g := g) rfl _ _ q2
    rw [add_at, Nat.zero_add] at b1 b2
    exact ⟨a1, a2, a3, a4, a5, a6, by rw [Nat.zero_add]; exact b1, by rw [Nat.zero_add]; exact b2, q3.rd, q3.sl, q4.rd, q4.sl⟩
set_option maxHeartbeats 1000000 in
theorem refOneQ (uo bo : Option Addr) (tn tc bn bc : Nat) (t b : List Int) (r p : Nat) (w : World) (h : Rd w uo tn t) (hs : Sl uo tn tc) (g : Rd w bo bn b) (gs : Sl bo bn bc) (my : mayA t b = 0) (hr : r ≤ 100) (hp : tn - r = p) :
    Calls Tryz.prog 78 #[.agg #[.slice uo tn tc, .slice bo bn bc], .int .i64 (r : Int)] w fun e w' => ∃ fo fc go gc l1 m1 d1 l2 m2 d2, e = .returned (.tuple #[.agg #[.slice fo p fc, .slice go (cun t p) gc, .slice l1 m1 d1, .slice l2 m2 d2], .int .i64 0]) ∧ Ft 3 w' w.heap.size fo p fc (t.take p) ∧ Gv w' w.heap.size go (cun t p) gc (cux t b p) ∧ Below w.heap.size w w' := by
  obtain ⟨m1, m2⟩ := mayA_zero my
  have mf := mayF_takeQ m1 p
  have mc := mayF_dropS m1 p
  have b1 := prG_bd mf
  have b2 := prG_bd mc
  have e : pr t = pr (t.take p) * pr (t.drop p) := by rw [← pr_app, List.take_append_drop]
  have eN : pr (t.take p) = ((cun t p : Nat) : Int) := by unfold cun; omega
  obtain ⟨z, hz⟩ : ∃ z : Nat, pr (t.drop p) = (z : Int) := ⟨(pr (t.drop p)).toNat, by omega⟩
  have eL : cun t p * z = bn := by
    have : ((cun t p * z : Nat) : Int) = (bn : Int) := by rw [Int.natCast_mul, ← eN, ← hz, ← e, ← m2, g.len]
    omega
  refine refOne4 uo bo tn tc bn bc t b (r : Int) p (cun t p) z w h hs g gs my (by omega) (by omega) ?_ rfl hz eN mf mc eL (by omega) (by omega) (fun k hk => ?_)
  · unfold rankF
    rw [if_pos (by omega)]
    omega
  · have := cuz_pr my (p := p) (show 0 < cun t p by omega)
    unfold cux
    rw [show cuz t b p = z by omega]
set_option maxHeartbeats 8000000 in
set_option maxRecDepth 20000 in
theorem refFound7 (so ao uo bo : Option Addr) (sn sc an ac tn tc bn bc n p N : Nat) (xs zs : Nat → List Int × List Int) (fs : List Int) (w : World) (hn4 : n ≤ 4096) (hN4 : N ≤ 4096)
    (HI : ∀ V, Below w.heap.size w V → Calls Tryz.prog 23 #[.agg #[.slice so sn sc, .slice ao an ac]] V fun e w' => ∃ go gc, e = .returned (.slice go n gc) ∧ Gv w' V.heap.size go n gc xs ∧ Below V.heap.size V w')
    (HC : ∀ V, Below w.heap.size w V → Calls Tryz.prog 55 #[.agg #[.slice uo tn tc, .slice bo bn bc], .agg #[.slice so sn sc, .slice ao an ac]] V fun e w' => ∃ fo fc go gc l1 m1 d1 l2 m2 d2, e = .returned (.agg #[.slice fo p fc, .slice go N gc, .slice l1 m1 d1, .slice l2 m2 d2]) ∧ Ft 3 w' V.heap.size fo p fc fs ∧ Gv w' V.heap.size go N gc zs ∧ Below V.heap.size V w') :
    Calls Tryz.prog 32 #[.agg #[.slice so sn sc, .slice ao an ac], .agg #[.slice uo tn tc, .slice bo bn bc]] w fun e w' => ∃ o1 c1 o2 c2, e = .returned (.agg #[.slice o1 p c1, .slice o2 N c2]) ∧ Ft 3 w' w.heap.size o1 p c1 fs ∧ Ft 2 w' w.heap.size o2 N c2 (ecL (tP xs n) zs N) ∧ Below w.heap.size w w' := by
  have ka := box_below w (.cells #[.slice so sn sc, .slice ao an ac] 30)
  have na := allocNew w (.cells #[.slice so sn sc, .slice ao an ac] 30)
  have kx := box_below (w.alloc (.cells #[.slice so sn sc, .slice ao an ac] 30)) (.cells #[.slice uo tn tc, .slice bo bn bc] 30)
  have nx := allocNew (w.alloc (.cells #[.slice so sn sc, .slice ao an ac] 30)) (.cells #[.slice uo tn tc, .slice bo bn bc] 30)
  have kr := box_below ((w.alloc (.cells #[.slice so sn sc, .slice ao an ac] 30)).alloc (.cells #[.slice uo tn tc, .slice bo bn bc] 30)) (.cells #[.slice none 0 0, .slice none 0 0] 30)
  have nr := allocNew ((w.alloc (.cells #[.slice so sn sc, .slice ao an ac] 30)).alloc (.cells #[.slice uo tn tc, .slice bo bn bc] 30)) (.cells #[.slice none 0 0, .slice none 0 0] 30)
  simp only [World.size_alloc] at nx nr
  have na1 := (kx.block w.heap.size (by simp)).trans na
  have na2 := (kr.block w.heap.size (by simp; omega)).trans na1
  have nx2 := (kr.block (w.heap.size + 1) (by simp)).trans nx
  have k2 := ka.trans (kx.mono ka.size)
  have k3 := k2.trans (kr.mono k2.size)
  have cI := HI _ k3
  have HCC : Hid (∀ V, Below w.heap.size w V → _) := HC
  have HEL : Hid ((ecL (tP xs n) zs N).length = N) := ecL_len _ _ _
  have HEN : Hid (∀ k, k < N → nth (ecL (tP xs n) zs N) k = ((fsq xs n (zs k) : Nat) : Int)) := fun k hk => ecL_nth hk
  have HFL : Hid (∀ k, fsq xs n (zs k) ≤ n) := fun k => fsq_le _ _ _
  generalize ecL (tP xs n) zs N = es at *
  obtain ⟨x0, x1, _, _⟩ := box2 na2
  clear ka na kx nx kr na1 k2 HI HC
  go_enter Tryz.func32, Tryz.ntmps32
  go_wp2_with (first
    | (go_at_call 23; (with_reducible refine cI.mono ?_); rintro e V1 ⟨lo, lc, rfl, gl, k4⟩; have b4 := k3.trans (k4.mono k3.size); have m1 := (k4.block w.heap.size (Array.getElem?_eq_some_iff.1 na2).1).trans na2; have m2 := (k4.block (w.heap.size + 1) (Array.getElem?_eq_some_iff.1 nx2).1).trans nx2; have mR := (k4.block (w.heap.size + 1 + 1) (Array.getElem?_eq_some_iff.1 nr).1).trans nr; have AS := gv_as gl (by omega); have cC := HCC.out V1 b4; clear x0 x1 na2 nx2 nr cI k3 k4 gl; obtain ⟨x0, x1, _, _⟩ := box2 m1; obtain ⟨y0, y1, _, _⟩ := box2 m2)
    | (go_at_call 55; (with_reducible refine cC.mono ?_); rintro e V2 ⟨fo, fc, go, gc, l1, m1', d1, l2, m2', d2, rfl, f1, f2, k5⟩; have b5 := b4.trans (k5.mono b4.size); have mR2 := (k5.block (w.heap.size + 1 + 1) (Array.getElem?_eq_some_iff.1 mR).1).trans mR; have A2 := AS.below k5 (Nat.le_refl _); clear x0 x1 y0 y1 m1 m2 mR AS; have kq := box_below V2 (.cells #[.slice fo p fc, .slice go N gc, .slice l1 m1' d1, .slice l2 m2' d2] 74); have nq := allocNew V2 (.cells #[.slice fo p fc, .slice go N gc, .slice l1 m1' d1, .slice l2 m2' d2] 74); obtain ⟨⟨e0, e1, _, _⟩, _⟩ := box4r nq))
  have g1 := (f1.below kq (Nat.le_refl _)).mono b4.size
  have g2 := (gv_as f2 (by omega)).below kq (Nat.le_refl _)
  have A3 := A2.below kq (Nat.le_refl _)
  have b6 := b5.trans (kq.mono b5.size)
  have mR3 := (kq.block (w.heap.size + 1 + 1) (Array.getElem?_eq_some_iff.1 mR2).1).trans mR2
  have hqc : V2.heap.size < (V2.alloc (.cells #[.slice fo p fc, .slice go N gc, .slice l1 m1' d1, .slice l2 m2' d2] 74)).heap.size := by simp
  have hW0 : (V2.alloc (.cells #[.slice fo p fc, .slice go N gc, .slice l1 m1' d1, .slice l2 m2' d2] 74)).heap.size = V2.heap.size + 1 := by simp
  have hR3 : w.heap.size + 1 + 1 < V2.heap.size := (Array.getElem?_eq_some_iff.1 mR2).1
  generalize V2.alloc (.cells #[.slice fo p fc, .slice go N gc, .slice l1 m1' d1, .slice l2 m2' d2] 74) = W0 at *
  generalize V2.heap.size = cq at *
  clear kq f1 f2 A2 b5 mR2 k5 cC e0 e1 b4
  have kk := box_below W0 (.cells #[.slice fo p fc, .slice none 0 0] 30)
  have nk := allocNew W0 (.cells #[.slice fo p fc, .slice none 0 0] 30)
  have sC : W0.heap.size < (W0.alloc (.cells #[.slice fo p fc, .slice none 0 0] 30)).heap.size := by simp
  generalize W0.alloc (.cells #[.slice fo p fc, .slice none 0 0] 30) = C at *
  have fsC := g1.below kk (Nat.le_refl _)
  have bC := b6.trans (kk.mono b6.size)
  have mR4 := (kk.block (w.heap.size + 1 + 1) (by omega)).trans mR3
  have hqs : W0.heap.size ≤ cq + 1 := Nat.le_of_eq hW0
  rw [hW0] at nk sC
  have hW0' : Hid (W0.heap.size = cq + 1) := hW0
  clear hW0
  clear mR3 g1
  have G0 : Gw C C (cq + 1) fo p fc none 0 0 (es.take 0) := ⟨nk, Ft.nil _ _ _, ⟨rfl, rfl, rfl, Nat.le_refl _, fun _ _ _ => rfl⟩, sC⟩
  go_loopw [8] (fun i V => ∃ (k : Nat) (o : Option Addr) (c : Nat), k ≤ N ∧ i = .int .i64 (k : Nat) ∧ Gw C V (cq + 1) fo p fc o k c (es.take k)) (fun i _ => N - (intOf i).toNat)
  case atStart => exact ⟨0, none, 0, Nat.zero_le _, rfl, G0⟩
  case round =>
    clear G0
    obtain ⟨k, o, c, hk, rfl, GW⟩ := hrel
    have bV := GW.far kk hqs
    have hs' := GW.g.size
    have nV := (bV.block cq hqc).trans nq
    obtain ⟨⟨c0, c1, _, _⟩, _⟩ := box4r nV
    obtain ⟨y0, y1, yf, yg⟩ := box2 GW.a
    by_cases hlt : k < N
    · have t1 : decide ((k : Int) < (N : Int)) = true := by simp; omega
      have t2 : (k : Int) < (N : Int) := by omega
      obtain ⟨bb, off, rfl, hb2, hcs⟩ := g2.cells (by omega)
      obtain ⟨eo, en, ec, fo', fn', fc', q0, q1, r0, _, r1, _⟩ := hcs k hlt
      have AV := A3.below bV (Nat.le_refl _)
      have bd := bV.drew
      have cF := refFirst7_any lo n lc xs eo fo' en ec fn' fc' (zs k) wr.drew (A3.below bd (Nat.le_refl _)) (by omega) (r0.below bd (Nat.le_refl _)) (r1.below bd (Nat.le_refl _))
      have hv := HFL.out k
      have HT : Hid (es.take k ++ [((fsq xs n (zs k) : Nat) : Int)] = es.take (k + 1)) := by show _ = _; rw [← HEN.out k hlt]; exact take_more (by rw [HEL.out]; exact hlt)
      generalize fsq xs n (zs k) = v at *
      have hbC : bb < C.heap.size := Nat.lt_of_lt_of_le hb2 kk.size
      have hqC : cq < C.heap.size := Nat.lt_of_lt_of_le hqc kk.size
      have hb : bb < wr.heap.size := by omega
      have z0 := (bV.cell (p := ⟨bb, off + k * 2, none⟩) hb2).trans q0
      have z1 := (bV.cell (p := ⟨bb, off + k * 2 + 1, none⟩) hb2).trans q1
      clear hcs r0 r1 q0 q1 AV
      have HS : wr.drew.cell? ⟨cq + 1, 1, none⟩ = some (.slice o k c) ∧ wr.drew.cell? ⟨cq, 1, none⟩ = some (.slice (some ⟨bb, off, none⟩) N gc) ∧ wr.drew.cell? ⟨bb, off + k * 2, none⟩ = some (.slice eo en ec) ∧ wr.drew.cell? ⟨bb, off + k * 2 + 1, none⟩ = some (.slice fo' fn' fc') := ⟨y1, c1, z0, z1⟩
      go_wp2
      refine wp_region_R (fun V => V.cell? ⟨cq + 1, 1, none⟩ = some (.slice o k c) ∧ V.cell? ⟨cq, 1, none⟩ = some (.slice (some ⟨bb, off, none⟩) N gc) ∧ V.cell? ⟨bb, off + k * 2, none⟩ = some (.slice eo en ec) ∧ V.cell? ⟨bb, off + k * 2 + 1, none⟩ = some (.slice fo' fn' fc')) (fun i => i != 12) (by kernel_rfl) ?_
      refine wpAnyR_take (i := 0) (v := .pointer (some ⟨cq + 1, 1, none⟩)) rfl (by kernel_rfl) (by kernel_rfl) (by kernel_rfl) (by kernel_rfl) (fun _ _ _ h => h) (Or.inl ⟨by rfl, fun V hV => ?_⟩) ?_ ?_
      · obtain ⟨g0, g1, g2, g3⟩ := hV
        go_simp
      · exact HS
      conv => arg 9; simp [Act.put]
      refine wpAnyR_take (i := 1) (v := .slice o k c) rfl (by kernel_rfl) (by kernel_rfl) (by kernel_rfl) (by kernel_rfl) (fun _ _ _ h => h) (Or.inl ⟨by rfl, fun V hV => ?_⟩) ?_ ?_
      · obtain ⟨g0, g1, g2, g3⟩ := hV
        go_simp
      · exact HS
      conv => arg 9; simp [Act.put]
      refine wpAnyR_take (i := 2) (v := .slice lo n lc) rfl (by kernel_rfl) (by kernel_rfl) (by kernel_rfl) (by kernel_rfl) (fun _ _ _ h => h) (Or.inl ⟨by rfl, fun V hV => ?_⟩) ?_ ?_
      · obtain ⟨g0, g1, g2, g3⟩ := hV
        go_simp
      · exact HS
      conv => arg 9; simp [Act.put]
      refine wpAnyR_take (i := 3) (v := .pointer (some ⟨cq, 1, none⟩)) rfl (by kernel_rfl) (by kernel_rfl) (by kernel_rfl) (by kernel_rfl) (fun _ _ _ h => h) (Or.inl ⟨by rfl, fun V hV => ?_⟩) ?_ ?_
      · obtain ⟨g0, g1, g2, g3⟩ := hV
        go_simp
      · exact HS
      conv => arg 9; simp [Act.put]
      refine wpAnyR_take (i := 4) (v := .slice (some ⟨bb, off, none⟩) N gc) rfl (by kernel_rfl) (by kernel_rfl) (by kernel_rfl) (by kernel_rfl) (fun _ _ _ h => h) (Or.inl ⟨by rfl, fun V hV => ?_⟩) ?_ ?_
      · obtain ⟨g0, g1, g2, g3⟩ := hV
        go_simp
      · exact HS
      conv => arg 9; simp [Act.put]
      refine wpAnyR_take (i := 5) (v := .int .i64 (k : Int)) rfl (by kernel_rfl) (by kernel_rfl) (by kernel_rfl) (by kernel_rfl) (fun _ _ _ h => h) (Or.inl ⟨by rfl, fun V hV => ?_⟩) ?_ ?_
      · obtain ⟨g0, g1, g2, g3⟩ := hV
        go_simp
      · exact HS
      conv => arg 9; simp [Act.put]
      refine wpAnyR_take (i := 6) (v := .pointer (some ⟨bb, off + k * 2, none⟩)) rfl (by kernel_rfl) (by kernel_rfl) (by kernel_rfl) (by kernel_rfl) (fun _ _ _ h => h) (Or.inl ⟨by rfl, fun V hV => ?_⟩) ?_ ?_
      · obtain ⟨g0, g1, g2, g3⟩ := hV
        go_simp
      · exact HS
      conv => arg 9; simp [Act.put]
      refine wpAnyR_take (i := 7) (v := .agg #[.slice eo en ec, .slice fo' fn' fc']) rfl (by kernel_rfl) (by kernel_rfl) (by kernel_rfl) (by kernel_rfl) (fun _ _ _ h => h) (Or.inl ⟨by rfl, fun V hV => ?_⟩) ?_ ?_
      · obtain ⟨g0, g1, g2, g3⟩ := hV
        go_simp
      · exact HS
      conv => arg 9; simp [Act.put]
      refine wpAnyR_one (i := 8) (by kernel_rfl) rfl (fun K hK => ?_)
      go_simp
      go_wp2_with (go_at_call 27; (with_reducible refine cF.mono ?_); rintro e V5 ⟨rfl, k5⟩; have kA : Below wr.heap.size wr V5 := ((Below.refl wr.heap.size wr).drew).trans k5; have GA := GW.below kA; have HSA : V5.cell? ⟨cq + 1, 1, none⟩ = some (.slice o k c) ∧ V5.cell? ⟨cq, 1, none⟩ = some (.slice (some ⟨bb, off, none⟩) N gc) ∧ V5.cell? ⟨bb, off + k * 2, none⟩ = some (.slice eo en ec) ∧ V5.cell? ⟨bb, off + k * 2 + 1, none⟩ = some (.slice fo' fn' fc') := ⟨(box2 GA.a).2.1, (kA.cell (p := ⟨cq, 1, none⟩) (show cq < wr.heap.size by omega)).trans HS.2.1, (kA.cell (p := ⟨bb, off + k * 2, none⟩) hb).trans HS.2.2.1, (kA.cell (p := ⟨bb, off + k * 2 + 1, none⟩) hb).trans HS.2.2.2⟩; refine hK _ _ ⟨fun _ => HSA, ?_⟩; clear hK)
      conv => arg 9; simp [Act.put]
      refine wpAnyR_one (i := 9) (by kernel_rfl) rfl (fun K hK => ?_)
      have F1 := newL V5 (v : Int) (by omega) (by omega)
      have kb := box_below V5 (.cells #[.int .i64 (v : Int)] 2)
      have kB : Below wr.heap.size wr (V5.alloc (.cells #[.int .i64 (v : Int)] 2)) := kA.trans (kb.mono kA.size)
      have GB := GW.below kB
      have HSB : (V5.alloc (.cells #[.int .i64 (v : Int)] 2)).cell? ⟨cq + 1, 1, none⟩ = some (.slice o k c) ∧ (V5.alloc (.cells #[.int .i64 (v : Int)] 2)).cell? ⟨cq, 1, none⟩ = some (.slice (some ⟨bb, off, none⟩) N gc) ∧ (V5.alloc (.cells #[.int .i64 (v : Int)] 2)).cell? ⟨bb, off + k * 2, none⟩ = some (.slice eo en ec) ∧ (V5.alloc (.cells #[.int .i64 (v : Int)] 2)).cell? ⟨bb, off + k * 2 + 1, none⟩ = some (.slice fo' fn' fc') := ⟨(box2 GB.a).2.1, (kB.cell (p := ⟨cq, 1, none⟩) (show cq < wr.heap.size by omega)).trans HS.2.1, (kB.cell (p := ⟨bb, off + k * 2, none⟩) hb).trans HS.2.2.1, (kB.cell (p := ⟨bb, off + k * 2 + 1, none⟩) hb).trans HS.2.2.2⟩
      go_simp
      refine hK _ _ ⟨fun _ => HSB, ?_⟩
      clear hK
      conv => arg 9; simp [Act.put]
      refine wpAnyR_one (i := 10) (by kernel_rfl) rfl (fun K hK => ?_)
      refine step_joinW tyL rfl (.tmp 25) (.tmp 33) rfl C.heap.size (k + 1) o (some ⟨V5.heap.size, 0, none⟩) k c 1 1 (es.take k) [(v : Int)] rfl (by simp [Act.eval]) (by simp [Act.eval]) GB.l F1.rd F1.sl (by omega) GB.g.size ?_
      intro co9 cc9 W9 f9 g9 a9
      have b9' := ft_grows GB.l g9 GB.g.size
      have b9 : Below C.heap.size wr W9 := (kB.mono hs').trans b9'
      have q9 := (b9.block (cq + 1) sC).trans GW.a
      have HS9 : W9.cell? ⟨cq + 1, 1, none⟩ = some (.slice o k c) ∧ W9.cell? ⟨cq, 1, none⟩ = some (.slice (some ⟨bb, off, none⟩) N gc) ∧ W9.cell? ⟨bb, off + k * 2, none⟩ = some (.slice eo en ec) ∧ W9.cell? ⟨bb, off + k * 2 + 1, none⟩ = some (.slice fo' fn' fc') := ⟨(box2 q9).2.1, (b9.cell (p := ⟨cq, 1, none⟩) hqC).trans c1, (b9.cell (p := ⟨bb, off + k * 2, none⟩) hbC).trans z0, (b9.cell (p := ⟨bb, off + k * 2 + 1, none⟩) hbC).trans z1⟩
      have F9 := (box2 q9).2.2.2
      refine hK _ _ ⟨fun _ => HS9, ?_⟩
      clear hK
      conv => arg 9; simp [Act.put]
      refine wpAnyR_one (i := 11) (by kernel_rfl) rfl (fun K hK => ?_)
      go_simp
      refine hK _ _ ⟨fun _ => HS9, ?_⟩
      clear hK
      conv => arg 9; simp [Act.put]
      refine wpAnyR_one (i := 12) (by kernel_rfl) rfl (fun K hK => ?_)
      go_simp
      refine hK _ _ ⟨fun h => absurd h (by decide), ?_⟩
      clear hK
      refine wpAnyR_done (by kernel_rfl) ?_ _
      go_wp2
      go_roundw
      case measure => simp [intOf]; omega
      case rel =>
        refine ⟨k + 1, co9, cc9, by omega, by go_num, ?_⟩
        rw [← HT.out]
        exact gw_step GW b9 f9
    · obtain rfl : k = N := by omega
      have t1 : decide ((k : Int) < (k : Int)) = false := by simp
      have rV := (GW.g.block (w.heap.size + 1 + 1) (by omega) (by intro e; simp only [Option.some.injEq] at e; omega)).trans mR4
      obtain ⟨x0, x1, xf, xg⟩ := box2 rV
      go_wp2
      (try simp only [Exit.inBlock, Exit.then])
      refine bodyPost_ret (v := .agg #[.slice fo p fc, .slice o k c]) (by simp [results, Tryz.results32]; go_simp) rfl ?_
      have e := ends2 (w := w) (.slice fo p fc) (.slice o k c) (GW.sh fsC nk) GW.l (Nat.le_refl _) (by omega) rV (by omega) (GW.far bC (by omega))
      rw [List.take_of_length_le (by rw [HEL.out]; exact Nat.le_refl _)] at e
      exact ⟨_, _, _, _, rfl, e.1, e.2.1, e.2.2⟩
end Go.Proofs.YtmepcenbaohcoaaGreat
