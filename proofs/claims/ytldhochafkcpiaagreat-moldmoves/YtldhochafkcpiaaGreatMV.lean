
/- Contract of package mold: an array laid out by numbers. -/

import Derived.Test.YtldhochafkcpiaaGreatMU

namespace Go.Proofs.YtldhochafkcpiaaGreat

open Go.RowKit

set_option linter.unusedVariables false

set_option maxHeartbeats 2000000 in
theorem indexI_some (ao : Option Addr) (n c : Nat) (zs : List Int) (v : Int) (w : World) (h : Rd w ao n zs) :
    Calls Tryz.prog 80 #[.slice ao n c, .int .i64 v] w fun e w' => (∃ r : Int, e = .returned (.int .i64 r)) ∧ ∃ q, w' = w.drewN q := by
  have hroom := h.room
  go_enter Tryz.func80, Tryz.ntmps80
  go_wp2
  go_loopw [8] (fun i wr => ∃ k : Nat, k ≤ n ∧ i = .int .i64 (k : Nat) ∧ ∃ q, wr = w.drewN q) (fun i _ => n - (intOf i).toNat)
  case atStart => exact ⟨0, Nat.zero_le _, rfl, 0, rfl⟩
  case round =>
    obtain ⟨k, hk, rfl, q, rfl⟩ := hrel
    by_cases hlt : k < n
    · obtain ⟨b, off, rfl, hb, hc⟩ := h.cells (by omega)
      have c1 := hc k hlt
      clear hc
      by_cases e : v = nth zs k
      · have te : (v == nth zs k) = true := by simpa using e
        clear e
        go_wp2
        go_ret
        exact ⟨⟨_, rfl⟩, _, rfl⟩
      · have te : (v == nth zs k) = false := by simpa using e
        clear e
        go_wp2
        go_roundw
        case rel => exact ⟨k + 1, by omega, by go_num, _, rfl⟩
        case measure => simp [intOf]; omega
    · obtain rfl : n = k := by omega
      go_wp2
      go_ret
      exact ⟨⟨_, rfl⟩, _, rfl⟩
theorem containsI_some (ao : Option Addr) (n c : Nat) (zs : List Int) (v : Int) (w : World) (h : Rd w ao n zs) :
    Calls Tryz.prog 49 #[.slice ao n c, .int .i64 v] w fun e w' => (∃ r : Bool, e = .returned (.bool r)) ∧ ∃ q, w' = w.drewN q := by
  have hi := indexI_some ao n c zs v w h
  go_enter Tryz.func49, Tryz.ntmps49
  go_wp2_with (go_at_call 80; (with_reducible refine hi.mono ?_); rintro e w' ⟨⟨r, rfl⟩, q, rfl⟩)
  go_ret
  exact ⟨⟨_, rfl⟩, q, rfl⟩

theorem Ft.some {e : TypeId} {w : World} {B : Nat} {ao : Option Addr} {n c : Nat} {zs : List Int} (h : Ft e w B ao n c zs) (hn : 0 < n) : ∃ g, ao = .some ⟨g, 0, none⟩ ∧ B ≤ g ∧ g < w.heap.size := by
  rcases h.own.2 with ⟨e1, h0⟩ | ⟨g, c, cur, e1, hB2, hg, r⟩
  · omega
  · cases e1
    exact ⟨g, rfl, hB2, (Array.getElem?_eq_some_iff.1 hg).1⟩
theorem Ft.slot {e : TypeId} {w : World} {B g n c k : Nat} {zs : List Int} (h : Ft e w B (.some ⟨g, 0, none⟩) n c zs) (hk : k < n) : ∃ u, w.cell? ⟨g, k, none⟩ = .some u ∧ w.frozen? ⟨g, k, none⟩ = false := by
  obtain ⟨b, off, e1, hb, hc⟩ := h.rd.cells (by omega)
  cases e1
  have c1 := hc k hk
  rw [Nat.zero_add] at c1
  rcases h.own.2 with ⟨e1, h0⟩ | ⟨g, c, cur, e1, hB2, hg, r⟩
  · cases e1
  · cases e1
    exact ⟨_, c1, frozen_of_row w g k _ _ hg⟩
def rsL (N an : Nat) (at' : List Int) (i : Nat) : List Int := (List.range N).map fun t => if t < i then nth at' (t % an) else 0
theorem rsL_zero (N an : Nat) (at' : List Int) : rsL N an at' 0 = List.replicate N 0 := by
  apply List.ext_getElem
  · simp [rsL]
  · intro k h1 h2; simp [rsL]
theorem rsL_step {N an i : Nat} {at' : List Int} (h : i < N) : (rsL N an at' i).set i (nth at' (i % an)) = rsL N an at' (i + 1) := by
  apply List.ext_getElem
  · simp [rsL]
  · intro k h1 h2
    have hk : k < N := by simpa [rsL] using h2
    by_cases e : i = k
    · subst e; simp [rsL]
    · rw [List.getElem_set_ne e]
      simp only [rsL, List.getElem_map, List.getElem_range]
      by_cases c : k < i
      · rw [if_pos c, if_pos (by omega)]
      · rw [if_neg c, if_neg (by omega)]

set_option maxHeartbeats 4000000 in
set_option maxRecDepth 20000 in
theorem reshape_any (xso xo so ao : Option Addr) (xsn xsc xn xc sn sc an ac : Nat) (xs sh at' : List Int) (w : World) (hx : Rd w xo xn xs) (hs : Rd w so sn sh) (ss : Sl so sn sc) (ha : Rd w ao an at') (my : mayA sh at' = 0) (hx0 : ∀ k, k < xn → 0 ≤ nth xs k) (hxn : xn ≤ 4096) (hm : mayF (xs ++ sh.drop 1) = 0) (han : 0 < an) (hpos : 0 < pr (xs ++ sh.drop 1)) :
    Calls Tryz.prog 24 #[.agg #[.slice xso xsn xsc, .slice xo xn xc], .agg #[.slice so sn sc, .slice ao an ac]] w fun e w' => ∃ o1 n1 c1 o2 n2 c2, e = .returned (.tuple #[.agg #[.slice o1 n1 c1, .slice o2 n2 c2], .int .i64 0]) ∧ Ft 3 w' w.heap.size o1 n1 c1 (xs ++ sh.drop 1) ∧ Ft 2 w' w.heap.size o2 n2 c2 (rsL (pr (xs ++ sh.drop 1)).toNat an at' (pr (xs ++ sh.drop 1)).toNat) ∧ Below w.heap.size w w' := by
  have D0 := dw_start w xso xsn xsc xo xn xc so sn sc ao an ac
  have hmk := run_make_row' (P := Tryz.prog) 23 3 (.int .i64 0) 8 Tryz.underlying23 infoI3 rfl .i64 .i64 xn (by omega) (by omega)
  have HX0 : Hid (∀ k, k < xn → 0 ≤ nth xs k) := hx0
  have hsn8 : sn ≤ 8 := by rw [← hs.len]; exact (mayF_zero (mayA_zero my).1).2.1
  have HXL : Hid (xs.length = xn) := hx.len
  have han4 : an ≤ 4096 := by rw [← ha.len]; exact at_len my
  have tl := tal_bd (mayA_zero my).1
  have htal : Hid (tal sh ≠ 0) := by
    intro e
    have h2 := (mayA_zero my).2
    have h3 := (isz_all my).1
    rw [e, Int.zero_mul] at h3
    rw [ha.len] at h3
    omega
  clear hx0
  obtain ⟨x0, x1, x2, x3, _⟩ := D0.all
  go_enter Tryz.func24, Tryz.ntmps24
  go_wp2
  clear x0 x1 x2 x3
  generalize hW0 : (((w.alloc (.cells #[.slice xso xsn xsc, .slice xo xn xc] 25)).alloc (.cells #[.slice so sn sc, .slice ao an ac] 25)).alloc (.cells #[.slice none 0 0, .slice none 0 0] 25)) = W0 at *
  have hs0 : W0.heap.size = w.heap.size + 1 + 1 + 1 := by rw [← hW0]; simp
  have R0 := RwT.start 3 W0 xn (fun j => nth xs j) (by omega)
  clear hmk hW0
  go_loopw [19] (fun i V => ∃ k : Nat, k ≤ xn ∧ i = .int .i64 (k : Nat) ∧ RwT 3 W0 V xn k (fun j => nth xs j)) (fun i _ => xn - (intOf i).toNat)
  case atStart => exact ⟨0, Nat.zero_le _, rfl, R0⟩
  case round =>
    obtain ⟨k, hk, rfl, R⟩ := hrel
    clear R0
    have b0w := D0.bel
    have BW := b0w.trans (R.bel.mono b0w.size)
    by_cases hlt : k < xn
    · obtain ⟨b, off, rfl, hb, hc⟩ := (hx.below BW (Nat.le_refl _)).cells (by omega)
      have c1 := hc k hlt
      have t0 : decide (nth xs k < 0) = false := by simpa using HX0.out k hlt
      have num := hx.num k hlt
      obtain ⟨u, y0, y1⟩ := R.slot k hlt
      have R2 := R.set hlt num.1 num.2
      rw [hs0] at y0 y1 R2
      clear hc num
      go_wp2
      go_roundw
      case rel => exact ⟨k + 1, by omega, by go_num, R2⟩
      case measure => simp [intOf]; omega
    · obtain rfl : xn = k := by omega
      have FX := R.all xs HXL.out (fun j hj => rfl)
      have DV := D0.below R.bel (Nat.le_refl _)
      have sV := R.bel.size
      obtain ⟨x0, x1, x2, x3, _⟩ := DV.all
      have cI := item6_any so ao sn sc an ac sh wr (hs.below BW (Nat.le_refl _)) ss
      clear R hk hlt
      obtain ⟨ITS, hITS⟩ : ∃ I, sh.drop 1 = I := ⟨_, rfl⟩
      rw [hITS] at cI hm hpos
      have HIT : Hid (sh.drop 1 = ITS) := hITS
      have cF := fun V o c (h : Rd V o (xn + (sn - 1)) (xs ++ ITS)) (s : Sl o (xn + (sn - 1)) c) => fill_any o (xn + (sn - 1)) c (xs ++ ITS) 0 V h s (by omega) (by omega)
      rw [hm, show filS (xs ++ ITS) = xs ++ ITS from if_pos hm, show filA (xs ++ ITS) 0 = List.replicate (pr (xs ++ ITS)).toNat 0 from if_pos hm] at cF
      have pb := prF_bd' hm
      obtain ⟨N, hN⟩ : ∃ N : Nat, (pr (xs ++ ITS)).toNat = N := ⟨_, rfl⟩
      have hN4 : N ≤ 4096 := by omega
      have hN0 : 0 < N := by omega
      rw [hN] at cF
      have HN : Hid ((pr (xs ++ ITS)).toNat = N) := hN
      rw [hs0] at FX
      have cIt := fun V (D : Dw w V xso xsn xsc xo xn xc so sn sc ao an ac) => items_any so ao sn sc an ac sh at' V (hs.below D.bel (Nat.le_refl _)) (ha.below D.bel (Nat.le_refl _))
      rw [show itm sh at' = tal sh from if_pos my] at cIt
      have tt : (tal sh == 0) = false := by simpa using htal.out
      clear hITS hm pb hN tl hpos
      generalize tal sh = TL at *
      go_wp2_with (first
        | (go_at_call 48; (with_reducible refine cI.mono ?_); rintro e w2 ⟨o2, c2, rfl, f2, k2⟩; have D2 := DV.below k2 (Nat.le_refl _); have FX2 := FX.below k2 (Nat.le_refl _))
        | (go_at_call 47; refine (concat_any _ o2 xn xn (sn - 1) c2 w2.heap.size xs ITS _ (allocNew w2 _) (FX2.rd.below (box_below w2 _) (Nat.le_refl _)) FX2.sl (f2.rd.below (box_below w2 _) (Nat.le_refl _)) f2.sl (by omega) (by omega)).mono ?_; rintro e w3 ⟨o3, c3, rfl, f3, k3⟩; have D3 := (D2.below (box_below w2 _) (Nat.le_refl _)).below k3 (Nat.le_refl _); have FX3 := (FX2.below (box_below w2 _) (Nat.le_refl _)).below k3 (Nat.le_refl _))
        | (go_at_call 46; (with_reducible refine (cF w3 o3 c3 f3.rd f3.sl).mono ?_); rintro e w4 ⟨o4, n4, c4, o5, n5, c5, rfl, f4, f5, ap, k4⟩; have D4 := D3.below k4 (Nat.le_refl _); have FX4 := (FX3.below k4 (Nat.le_refl _)).below (box_below w4 (.cells #[.slice o4 n4 c4, .slice o5 n5 c5] 25)) (Nat.le_refl _); have D5 := D4.below (box_below w4 (.cells #[.slice o4 n4 c4, .slice o5 n5 c5] 25)) (Nat.le_refl _))
        | (go_at_call 49; (with_reducible refine (containsI_some _ xn xn xs 0 _ FX4.rd).mono ?_); rintro e w6 ⟨⟨r6, rfl⟩, q6, hq6⟩; have k6 : Below (w4.alloc (.cells #[.slice o4 n4 c4, .slice o5 n5 c5] 25)).heap.size (w4.alloc (.cells #[.slice o4 n4 c4, .slice o5 n5 c5] 25)) w6 := (by rw [hq6]; exact below_drewN (Below.refl _ _) _); clear hq6; have D6 := D5.below k6 (Nat.le_refl _); have A6 := (k6.block w4.heap.size (by simp)).trans (allocNew w4 (.cells #[.slice o4 n4 c4, .slice o5 n5 c5] 25)); obtain ⟨a0, a1, _, _⟩ := box2 A6; obtain ⟨u0, u1, u2, u3, _⟩ := D6.all; cases r6)
        | (go_at_call 50; (with_reducible refine (cIt w6 D6).mono ?_); rintro e w7 ⟨rfl, k7⟩; have D7 := D6.below k7 (Nat.le_refl _); have A7 := (k7.block w4.heap.size (Array.getElem?_eq_some_iff.1 A6).1).trans A6; obtain ⟨a0, a1, _, _⟩ := box2 A7))
      · have kW : Below w4.heap.size w4 w7 := ((box_below w4 _).trans (k6.mono (by simp))).trans (k7.mono (Nat.le_trans (by simp) k6.size))
        have FS := f4.below kW (Nat.le_refl _)
        have FA := f5.below kW (Nat.le_refl _)
        have hn5 : n5 = N := by rw [← f5.rd.len]; simp
        subst hn5
        obtain ⟨g, rfl, hgB, hgl⟩ := FA.some hN0
        have hs3 := D3.sz
        have hgl4 : g < w4.heap.size := (f5.at g 0 rfl).2
        have hga : g ≠ w4.heap.size := by omega
        have ap' : ∀ b off, o4 = some ⟨b, off, none⟩ → b ≠ g := fun b off e => by intro e2; subst e2; exact ap ⟨b, off, none⟩ ⟨b, 0, none⟩ e rfl rfl
        rw [← rsL_zero n5 an at'] at FA
        clear cI cF cIt FX FX2 FX3 FX4 f3 k3 D2 f2 k2 u0 u1 u2 u3 x0 x1 x2 x3 a0 a1 D4 D5 DV f5
        go_loopw [57] (fun i V => ∃ k : Nat, k ≤ n5 ∧ i = .int .i64 (k : Nat) ∧ w7.grownBy V (some g) ∧ Ft 2 V w3.heap.size (some ⟨g, 0, none⟩) n5 c5 (rsL n5 an at' k)) (fun i _ => n5 - (intOf i).toNat)
        case atStart => exact ⟨0, Nat.zero_le _, rfl, World.grownBy.refl _ _, FA⟩
        case round =>
          obtain ⟨k, hk, rfl, GV, FV⟩ := hrel
          clear FA
          have lw := D7.sz
          have AV := (GV.block w4.heap.size (Array.getElem?_eq_some_iff.1 A7).1 (some_ne (Ne.symm hga))).trans A7
          have YV := (GV.block (w.heap.size + 1) (by omega) (some_ne (by omega))).trans D7.y
          have XV := (GV.block (w.heap.size + 1 + 1) (by omega) (some_ne (by omega)))
          by_cases hlt : k < n5
          · obtain ⟨q, hq⟩ : ∃ q : Nat, k % an = q := ⟨_, rfl⟩
            have hqn : q < an := by rw [← hq]; exact Nat.mod_lt _ han
            have eq : Int.tmod (k : Int) (an : Int) = (q : Int) := by rw [← hq]; rfl
            obtain ⟨b2, off2, rfl, hb2, hc2⟩ := (ha.below D7.bel (Nat.le_refl _)).cells han
            have hbw : b2 < w.heap.size := by
              obtain ⟨b', o', e', hl', _⟩ := ha.cells han
              cases e'; exact hl'
            have c2 := hc2 q hqn
            have num := ha.num q hqn
            have FV2 := FV.setT k hlt (nth at' q) num.1 num.2
            rw [← hq, rsL_step hlt, hq] at FV2
            have ALL : ∀ V : World, V.heap[w4.heap.size]? = wr.heap[w4.heap.size]? → V.heap[w.heap.size + 1]? = wr.heap[w.heap.size + 1]? → V.heap[b2]? = wr.heap[b2]? → V.cell? ⟨w4.heap.size, 1, none⟩ = some (.slice (some ⟨g, 0, none⟩) n5 c5) ∧ V.cell? ⟨w.heap.size + 1, 1, none⟩ = some (.slice (some ⟨b2, off2, none⟩) an ac) ∧ V.cell? ⟨b2, off2 + q, none⟩ = some (.int .i64 (nth at' q)) ∧ (V.heap[w4.heap.size]? = wr.heap[w4.heap.size]? ∧ V.heap[w.heap.size + 1]? = wr.heap[w.heap.size + 1]? ∧ V.heap[b2]? = wr.heap[b2]?) := fun V h1 h2 h3 => ⟨(box2 (h1.trans AV)).2.1, (box2 (h2.trans YV)).2.1, (cell_same h3 _).trans (GV.cell c2 (some_ne (by show b2 ≠ g; omega))), h1, h2, h3⟩
            obtain ⟨u, hu, hz⟩ : ∃ u, wr.cell? ⟨g, k, none⟩ = some u ∧ wr.frozen? ⟨g, k, none⟩ = false := FV.slot hlt
            have tz : ¬ (an : Int) = 0 := by omega
            have tz2 : ((an : Int) == 0) = false := by simp; omega
            have wq : IntKind.i64.wrap (q : Int) = (q : Int) := wrapIn _ (by omega)
            have bq : (q : Int) < (an : Int) := by omega
            have bk : (k : Int) < (n5 : Int) := by omega
            have keep : ∀ v : Value, (wr.drew.setCell ⟨g, k, none⟩ v).heap[w4.heap.size]? = wr.heap[w4.heap.size]? ∧ (wr.drew.setCell ⟨g, k, none⟩ v).heap[w.heap.size + 1]? = wr.heap[w.heap.size + 1]? ∧ (wr.drew.setCell ⟨g, k, none⟩ v).heap[b2]? = wr.heap[b2]? := fun v => by
              have hg := set1 wr.drew g k v
              have ls := GV.size
              have l1 := (Array.getElem?_eq_some_iff.1 AV).1
              have l2 := (Array.getElem?_eq_some_iff.1 YV).1
              exact ⟨hg.block _ l1 (some_ne (Ne.symm hga)), hg.block _ l2 (some_ne (by omega)), hg.block _ (by show b2 < wr.heap.size; omega) (some_ne (by omega))⟩
            have tz3 : ¬ an = 0 := by omega
            have eq2 : (k : Int) % (an : Int) = (q : Int) := by rw [← hq]; rfl
            have wq2 : IntKind.i64.wrap (Int.tmod (k : Int) (an : Int)) = (q : Int) := by rw [eq]; exact wq
            clear hc2 num
            go_wp2
            go_region_held3 (fun V => V.cell? ⟨w4.heap.size, 1, none⟩ = some (.slice (some ⟨g, 0, none⟩) n5 c5) ∧ V.cell? ⟨w.heap.size + 1, 1, none⟩ = some (.slice (some ⟨b2, off2, none⟩) an ac) ∧ V.cell? ⟨b2, off2 + q, none⟩ = some (.int .i64 (nth at' q)) ∧ (V.heap[w4.heap.size]? = wr.heap[w4.heap.size]? ∧ V.heap[w.heap.size + 1]? = wr.heap[w.heap.size + 1]? ∧ V.heap[b2]? = wr.heap[b2]?)) (first | exact ALL _ rfl rfl rfl | exact ALL _ (keep _).1 (keep _).2.1 (keep _).2.2) (fail)
            go_wp2
            go_roundw
            case rel =>
              have FV3 := FV2.below (Below.refl _ _).drew (Nat.le_refl _)
              have g3 := set1 wr g k (.int .i64 (nth at' q))
              exact ⟨k + 1, by omega, by go_num, ⟨g3.os.trans GV.os, g3.tape.trans GV.tape, g3.output.trans GV.output, Nat.le_trans GV.size g3.size, fun j hj hne => (g3.block j (Nat.lt_of_lt_of_le hj GV.size) hne).trans (GV.block j hj hne)⟩, FV3⟩
            case measure => simp [intOf]; omega
          · obtain rfl : n5 = k := by omega
            obtain ⟨a0, a1, _, _⟩ := box2 AV
            obtain ⟨ru, rv, hr⟩ := D7.r
            obtain ⟨z0, z1, z2, z3⟩ := box2 (XV.trans hr)
            have FS2 := FS.keep1 GV (fun b off e => some_ne (ap' b off e))
            have BV : Below w.heap.size w wr := D7.bel.grown GV D7.bel.size (fun j e => by cases e; omega)
            go_wp2
            (try simp only [Exit.inBlock, Exit.then])
            refine bodyPost_ret (v := .tuple #[.agg #[.slice o4 n4 c4, .slice (some ⟨g, 0, none⟩) n5 c5], .int .i64 0]) (by rw [results_cell_tmp rfl]; go_simp) rfl ?_
            rw [HIT.out, HN.out]
            exact ⟨_, _, _, _, _, _, rfl, (ft_set (w := w) FS2 (by omega) _ _).mono (by omega), (ft_set (w := w) FV (by omega) _ _).mono (by omega), below_set2 _ _ _ _ BV (by omega) (Nat.le_refl _)⟩
      · have kW : Below w4.heap.size w4 w6 := (box_below w4 _).trans (k6.mono (by simp))
        have FS := f4.below kW (Nat.le_refl _)
        have FA := f5.below kW (Nat.le_refl _)
        have hn5 : n5 = N := by rw [← f5.rd.len]; simp
        subst hn5
        obtain ⟨g, rfl, hgB, hgl⟩ := FA.some hN0
        have hs3 := D3.sz
        have hgl4 : g < w4.heap.size := (f5.at g 0 rfl).2
        have hga : g ≠ w4.heap.size := by omega
        have ap' : ∀ b off, o4 = some ⟨b, off, none⟩ → b ≠ g := fun b off e => by intro e2; subst e2; exact ap ⟨b, off, none⟩ ⟨b, 0, none⟩ e rfl rfl
        rw [← rsL_zero n5 an at'] at FA
        clear cI cF cIt FX FX2 FX3 FX4 f3 k3 D2 f2 k2 u0 u1 u2 u3 x0 x1 x2 x3 a0 a1 D4 D5 DV f5
        go_loopw [57] (fun i V => ∃ k : Nat, k ≤ n5 ∧ i = .int .i64 (k : Nat) ∧ w6.grownBy V (some g) ∧ Ft 2 V w3.heap.size (some ⟨g, 0, none⟩) n5 c5 (rsL n5 an at' k)) (fun i _ => n5 - (intOf i).toNat)
        case atStart => exact ⟨0, Nat.zero_le _, rfl, World.grownBy.refl _ _, FA⟩
        case round =>
          obtain ⟨k, hk, rfl, GV, FV⟩ := hrel
          clear FA
          have lw := D6.sz
          have AV := (GV.block w4.heap.size (Array.getElem?_eq_some_iff.1 A6).1 (some_ne (Ne.symm hga))).trans A6
          have YV := (GV.block (w.heap.size + 1) (by omega) (some_ne (by omega))).trans D6.y
          have XV := (GV.block (w.heap.size + 1 + 1) (by omega) (some_ne (by omega)))
          by_cases hlt : k < n5
          · obtain ⟨q, hq⟩ : ∃ q : Nat, k % an = q := ⟨_, rfl⟩
            have hqn : q < an := by rw [← hq]; exact Nat.mod_lt _ han
            have eq : Int.tmod (k : Int) (an : Int) = (q : Int) := by rw [← hq]; rfl
            obtain ⟨b2, off2, rfl, hb2, hc2⟩ := (ha.below D6.bel (Nat.le_refl _)).cells han
            have hbw : b2 < w.heap.size := by
              obtain ⟨b', o', e', hl', _⟩ := ha.cells han
              cases e'; exact hl'
            have c2 := hc2 q hqn
            have num := ha.num q hqn
            have FV2 := FV.setT k hlt (nth at' q) num.1 num.2
            rw [← hq, rsL_step hlt, hq] at FV2
            have ALL : ∀ V : World, V.heap[w4.heap.size]? = wr.heap[w4.heap.size]? → V.heap[w.heap.size + 1]? = wr.heap[w.heap.size + 1]? → V.heap[b2]? = wr.heap[b2]? → V.cell? ⟨w4.heap.size, 1, none⟩ = some (.slice (some ⟨g, 0, none⟩) n5 c5) ∧ V.cell? ⟨w.heap.size + 1, 1, none⟩ = some (.slice (some ⟨b2, off2, none⟩) an ac) ∧ V.cell? ⟨b2, off2 + q, none⟩ = some (.int .i64 (nth at' q)) ∧ (V.heap[w4.heap.size]? = wr.heap[w4.heap.size]? ∧ V.heap[w.heap.size + 1]? = wr.heap[w.heap.size + 1]? ∧ V.heap[b2]? = wr.heap[b2]?) := fun V h1 h2 h3 => ⟨(box2 (h1.trans AV)).2.1, (box2 (h2.trans YV)).2.1, (cell_same h3 _).trans (GV.cell c2 (some_ne (by show b2 ≠ g; omega))), h1, h2, h3⟩
            obtain ⟨u, hu, hz⟩ : ∃ u, wr.cell? ⟨g, k, none⟩ = some u ∧ wr.frozen? ⟨g, k, none⟩ = false := FV.slot hlt
            have tz : ¬ (an : Int) = 0 := by omega
            have tz2 : ((an : Int) == 0) = false := by simp; omega
            have wq : IntKind.i64.wrap (q : Int) = (q : Int) := wrapIn _ (by omega)
            have bq : (q : Int) < (an : Int) := by omega
            have bk : (k : Int) < (n5 : Int) := by omega
            have keep : ∀ v : Value, (wr.drew.setCell ⟨g, k, none⟩ v).heap[w4.heap.size]? = wr.heap[w4.heap.size]? ∧ (wr.drew.setCell ⟨g, k, none⟩ v).heap[w.heap.size + 1]? = wr.heap[w.heap.size + 1]? ∧ (wr.drew.setCell ⟨g, k, none⟩ v).heap[b2]? = wr.heap[b2]? := fun v => by
              have hg := set1 wr.drew g k v
              have ls := GV.size
              have l1 := (Array.getElem?_eq_some_iff.1 AV).1
              have l2 := (Array.getElem?_eq_some_iff.1 YV).1
              exact ⟨hg.block _ l1 (some_ne (Ne.symm hga)), hg.block _ l2 (some_ne (by omega)), hg.block _ (by show b2 < wr.heap.size; omega) (some_ne (by omega))⟩
            have tz3 : ¬ an = 0 := by omega
            have eq2 : (k : Int) % (an : Int) = (q : Int) := by rw [← hq]; rfl
            have wq2 : IntKind.i64.wrap (Int.tmod (k : Int) (an : Int)) = (q : Int) := by rw [eq]; exact wq
            clear hc2 num
            go_wp2
            go_region_held3 (fun V => V.cell? ⟨w4.heap.size, 1, none⟩ = some (.slice (some ⟨g, 0, none⟩) n5 c5) ∧ V.cell? ⟨w.heap.size + 1, 1, none⟩ = some (.slice (some ⟨b2, off2, none⟩) an ac) ∧ V.cell? ⟨b2, off2 + q, none⟩ = some (.int .i64 (nth at' q)) ∧ (V.heap[w4.heap.size]? = wr.heap[w4.heap.size]? ∧ V.heap[w.heap.size + 1]? = wr.heap[w.heap.size + 1]? ∧ V.heap[b2]? = wr.heap[b2]?)) (first | exact ALL _ rfl rfl rfl | exact ALL _ (keep _).1 (keep _).2.1 (keep _).2.2) (fail)
            go_wp2
            go_roundw
            case rel =>
              have FV3 := FV2.below (Below.refl _ _).drew (Nat.le_refl _)
              have g3 := set1 wr g k (.int .i64 (nth at' q))
              exact ⟨k + 1, by omega, by go_num, ⟨g3.os.trans GV.os, g3.tape.trans GV.tape, g3.output.trans GV.output, Nat.le_trans GV.size g3.size, fun j hj hne => (g3.block j (Nat.lt_of_lt_of_le hj GV.size) hne).trans (GV.block j hj hne)⟩, FV3⟩
            case measure => simp [intOf]; omega
          · obtain rfl : n5 = k := by omega
            obtain ⟨a0, a1, _, _⟩ := box2 AV
            obtain ⟨ru, rv, hr⟩ := D6.r
            obtain ⟨z0, z1, z2, z3⟩ := box2 (XV.trans hr)
            have FS2 := FS.keep1 GV (fun b off e => some_ne (ap' b off e))
            have BV : Below w.heap.size w wr := D6.bel.grown GV D6.bel.size (fun j e => by cases e; omega)
            go_wp2
            (try simp only [Exit.inBlock, Exit.then])
            refine bodyPost_ret (v := .tuple #[.agg #[.slice o4 n4 c4, .slice (some ⟨g, 0, none⟩) n5 c5], .int .i64 0]) (by rw [results_cell_tmp rfl]; go_simp) rfl ?_
            rw [HIT.out, HN.out]
            exact ⟨_, _, _, _, _, _, rfl, (ft_set (w := w) FS2 (by omega) _ _).mono (by omega), (ft_set (w := w) FV (by omega) _ _).mono (by omega), below_set2 _ _ _ _ BV (by omega) (Nat.le_refl _)⟩
end Go.Proofs.YtldhochafkcpiaaGreat
