
/- Contract: what every statement of layer 6 asks ahead. -/

import Derived.Test.YtjpdjnkmipfmbaaGreatMU
import Derived.Test.YtjpdjnkmipfmbaaGreatMK

namespace Go.Proofs.YtjpdjnkmipfmbaaGreat

open Go.RowKit

set_option linter.unusedVariables false

set_option maxHeartbeats 2000000 in
theorem indexI_some (ao : Option Addr) (n c : Nat) (zs : List Int) (v : Int) (w : World) (h : Rd w ao n zs) :
    Calls Tryz.prog 81 #[.slice ao n c, .int .i64 v] w fun e w' => (∃ r : Int, e = .returned (.int .i64 r)) ∧ ∃ q, w' = w.drewN q := by
  have hroom := h.room
  go_enter Tryz.func81, Tryz.ntmps81
  go_wp2
  go_loopw [8] (fun i wr => ∃ k : Nat, k ≤ n ∧ i = .int .i64 (k : Nat) ∧ ∃ q, wr = w.drewN q) (fun i _ => n - (intOf i).toNat)
  case atStart => exact ⟨0, Nat.zero_le _, rfl, 0, rfl⟩
  case round =>
    obtain ⟨k, hk, rfl, q, rfl⟩ := hrel
    by_cases hlt : k < n
    · obtain ⟨b, off, rfl, hb, hc⟩ := h.cells (by omega)
      have c1 := hc k hlt
      clear hc
      by_cases e : v = nth zs k
      · have te : (v == nth zs k) = true := by simpa using e
        clear e
        go_wp2
        go_ret
        exact ⟨⟨_, rfl⟩, _, rfl⟩
      · have te : (v == nth zs k) = false := by simpa using e
        clear e
        go_wp2
        go_roundw
        case rel => exact ⟨k + 1, by omega, by go_num, _, rfl⟩
        case measure => simp [intOf]; omega
    · obtain rfl : n = k := by omega
      go_wp2
      go_ret
      exact ⟨⟨_, rfl⟩, _, rfl⟩
theorem containsI_some (ao : Option Addr) (n c : Nat) (zs : List Int) (v : Int) (w : World) (h : Rd w ao n zs) :
    Calls Tryz.prog 50 #[.slice ao n c, .int .i64 v] w fun e w' => (∃ r : Bool, e = .returned (.bool r)) ∧ ∃ q, w' = w.drewN q := by
  have hi := indexI_some ao n c zs v w h
  go_enter Tryz.func50, Tryz.ntmps50
  go_wp2_with (go_at_call 81; (with_reducible refine hi.mono ?_); rintro e w' ⟨⟨r, rfl⟩, q, rfl⟩)
  go_ret
  exact ⟨⟨_, rfl⟩, q, rfl⟩

theorem Ft.some {e : TypeId} {w : World} {B : Nat} {ao : Option Addr} {n c : Nat} {zs : List Int} (h : Ft e w B ao n c zs) (hn : 0 < n) : ∃ g, ao = .some ⟨g, 0, none⟩ ∧ B ≤ g ∧ g < w.heap.size := by
  rcases h.own.2 with ⟨e1, h0⟩ | ⟨g, c, cur, e1, hB2, hg, r⟩
  · omega
  · cases e1
    exact ⟨g, rfl, hB2, (Array.getElem?_eq_some_iff.1 hg).1⟩
theorem Ft.slot {e : TypeId} {w : World} {B g n c k : Nat} {zs : List Int} (h : Ft e w B (.some ⟨g, 0, none⟩) n c zs) (hk : k < n) : ∃ u, w.cell? ⟨g, k, none⟩ = .some u ∧ w.frozen? ⟨g, k, none⟩ = false := by
  obtain ⟨b, off, e1, hb, hc⟩ := h.rd.cells (by omega)
  cases e1
  have c1 := hc k hk
  rw [Nat.zero_add] at c1
  rcases h.own.2 with ⟨e1, h0⟩ | ⟨g, c, cur, e1, hB2, hg, r⟩
  · cases e1
  · cases e1
    exact ⟨_, c1, frozen_of_row w g k _ _ hg⟩
def rsL (N an : Nat) (at' : List Int) (i : Nat) : List Int := (List.range N).map fun t => if t < i then nth at' (t % an) else 0
theorem rsL_zero (N an : Nat) (at' : List Int) : rsL N an at' 0 = List.replicate N 0 := by
  apply List.ext_getElem
  · simp [rsL]
  · intro k h1 h2; simp [rsL]
theorem rsL_len (N an : Nat) (at' : List Int) (i : Nat) : (rsL N an at' i).length = N := by simp [rsL]
theorem rsL_step {N an i : Nat} {at' : List Int} (h : i < N) : (rsL N an at' i).set i (nth at' (i % an)) = rsL N an at' (i + 1) := by
  apply List.ext_getElem
  · simp [rsL]
  · intro k h1 h2
    have hk : k < N := by simpa [rsL] using h2
    by_cases e : i = k
    · subst e; simp [rsL]
    · rw [List.getElem_set_ne e]
      simp only [rsL, List.getElem_map, List.getElem_range]
      by_cases c : k < i
      · rw [if_pos c, if_pos (by omega)]
      · rw [if_neg c, if_neg (by omega)]

set_option maxHeartbeats 4000000 in
set_option maxRecDepth 20000 in
theorem reshape_any (xso xo so ao : Option Addr) (xsn xsc xn xc sn sc an ac : Nat) (xs sh at' : List Int) (w : World) (hx : Rd w xo xn xs) (hs : Rd w so sn sh) (ss : Sl so sn sc) (ha : Rd w ao an at') (my : mayA sh at' = 0) (hx0 : ∀ k, k < xn → 0 ≤ nth xs k) (hxn : xn ≤ 4096) (hm : mayF (xs ++ sh.drop 1) = 0) (han : 0 < an) (hpos : 0 < pr (xs ++ sh.drop 1)) :
    Calls Tryz.prog 25 #[.agg #[.slice xso xsn xsc, .slice xo xn xc], .agg #[.slice so sn sc, .slice ao an ac]] w fun e w' => ∃ o1 n1 c1 o2 n2 c2, e = .returned (.tuple #[.agg #[.slice o1 n1 c1, .slice o2 n2 c2], .int .i64 0]) ∧ Ft 3 w' w.heap.size o1 n1 c1 (xs ++ sh.drop 1) ∧ Ft 2 w' w.heap.size o2 n2 c2 (rsL (pr (xs ++ sh.drop 1)).toNat an at' (pr (xs ++ sh.drop 1)).toNat) ∧ Below w.heap.size w w' := by
  have D0 := dw_start w xso xsn xsc xo xn xc so sn sc ao an ac
  have hmk := run_make_row' (P := Tryz.prog) 23 3 (.int .i64 0) 8 Tryz.underlying23 infoI3 rfl .i64 .i64 xn (by omega) (by omega)
  have HX0 : Hid (∀ k, k < xn → 0 ≤ nth xs k) := hx0
  have hsn8 : sn ≤ 8 := by rw [← hs.len]; exact (mayF_zero (mayA_zero my).1).2.1
  have HXL : Hid (xs.length = xn) := hx.len
  have han4 : an ≤ 4096 := by rw [← ha.len]; exact at_len my
  have tl := tal_bd (mayA_zero my).1
  have htal : Hid (tal sh ≠ 0) := by
    intro e
    have h2 := (mayA_zero my).2
    have h3 := (isz_all my).1
    rw [e, Int.zero_mul] at h3
    rw [ha.len] at h3
    omega
  clear hx0
  obtain ⟨x0, x1, x2, x3, _⟩ := D0.all
  go_enter Tryz.func25, Tryz.ntmps25
  go_wp2
  clear x0 x1 x2 x3
  generalize hW0 : (((w.alloc (.cells #[.slice xso xsn xsc, .slice xo xn xc] 25)).alloc (.cells #[.slice so sn sc, .slice ao an ac] 25)).alloc (.cells #[.slice none 0 0, .slice none 0 0] 25)) = W0 at *
  have hs0 : W0.heap.size = w.heap.size + 1 + 1 + 1 := by rw [← hW0]; simp
  have R0 := RwT.start 3 W0 xn (fun j => nth xs j) (by omega)
  clear hmk hW0
  go_loopw [19] (fun i V => ∃ k : Nat, k ≤ xn ∧ i = .int .i64 (k : Nat) ∧ RwT 3 W0 V xn k (fun j => nth xs j)) (fun i _ => xn - (intOf i).toNat)
  case atStart => exact ⟨0, Nat.zero_le _, rfl, R0⟩
  case round =>
    obtain ⟨k, hk, rfl, R⟩ := hrel
    clear R0
    have b0w := D0.bel
    have BW := b0w.trans (R.bel.mono b0w.size)
    by_cases hlt : k < xn
    · obtain ⟨b, off, rfl, hb, hc⟩ := (hx.below BW (Nat.le_refl _)).cells (by omega)
      have c1 := hc k hlt
      have t0 : decide (nth xs k < 0) = false := by simpa using HX0.out k hlt
      have num := hx.num k hlt
      obtain ⟨u, y0, y1⟩ := R.slot k hlt
      have R2 := R.set hlt num.1 num.2
      rw [hs0] at y0 y1 R2
      clear hc num
      go_wp2
      go_roundw
      case rel => exact ⟨k + 1, by omega, by go_num, R2⟩
      case measure => simp [intOf]; omega
    · obtain rfl : xn = k := by omega
      have FX := R.all xs HXL.out (fun j hj => rfl)
      have DV := D0.below R.bel (Nat.le_refl _)
      have sV := R.bel.size
      obtain ⟨x0, x1, x2, x3, _⟩ := DV.all
      have cI := item6_any so ao sn sc an ac sh wr (hs.below BW (Nat.le_refl _)) ss
      clear R hk hlt
      obtain ⟨ITS, hITS⟩ : ∃ I, sh.drop 1 = I := ⟨_, rfl⟩
      rw [hITS] at cI hm hpos
      have HIT : Hid (sh.drop 1 = ITS) := hITS
      have cF := fun V o c (h : Rd V o (xn + (sn - 1)) (xs ++ ITS)) (s : Sl o (xn + (sn - 1)) c) => fill_any o (xn + (sn - 1)) c (xs ++ ITS) 0 V h s (by omega) (by omega)
      rw [hm, show filS (xs ++ ITS) = xs ++ ITS from if_pos hm, show filA (xs ++ ITS) 0 = List.replicate (pr (xs ++ ITS)).toNat 0 from if_pos hm] at cF
      have pb := prF_bd' hm
      obtain ⟨N, hN⟩ : ∃ N : Nat, (pr (xs ++ ITS)).toNat = N := ⟨_, rfl⟩
      have hN4 : N ≤ 4096 := by omega
      have hN0 : 0 < N := by omega
      rw [hN] at cF
      have HN : Hid ((pr (xs ++ ITS)).toNat = N) := hN
      rw [hs0] at FX
      have cIt := fun V (D : Dw w V xso xsn xsc xo xn xc so sn sc ao an ac) => items_any so ao sn sc an ac sh at' V (hs.below D.bel (Nat.le_refl _)) (ha.below D.bel (Nat.le_refl _))
      rw [show itm sh at' = tal sh from if_pos my] at cIt
      have tt : (tal sh == 0) = false := by simpa using htal.out
      clear hITS hm pb hN tl hpos
      generalize tal sh = TL at *
      go_wp2_with (first
        | (go_at_call 49; (with_reducible refine cI.mono ?_); rintro e w2 ⟨o2, c2, rfl, f2, k2⟩; have D2 := DV.below k2 (Nat.le_refl _); have FX2 := FX.below k2 (Nat.le_refl _))
        | (go_at_call 48; refine (concat_any _ o2 xn xn (sn - 1) c2 w2.heap.size xs ITS _ (allocNew w2 _) (FX2.rd.below (box_below w2 _) (Nat.le_refl _)) FX2.sl (f2.rd.below (box_below w2 _) (Nat.le_refl _)) f2.sl (by omega) (by omega)).mono ?_; rintro e w3 ⟨o3, c3, rfl, f3, k3⟩; have D3 := (D2.below (box_below w2 _) (Nat.le_refl _)).below k3 (Nat.le_refl _); have FX3 := (FX2.below (box_below w2 _) (Nat.le_refl _)).below k3 (Nat.le_refl _))
        | (go_at_call 47; (with_reducible refine (cF w3 o3 c3 f3.rd f3.sl).mono ?_); rintro e w4 ⟨o4, n4, c4, o5, n5, c5, rfl, f4, f5, ap, k4⟩; have D4 := D3.below k4 (Nat.le_refl _); have FX4 := (FX3.below k4 (Nat.le_refl _)).below (box_below w4 (.cells #[.slice o4 n4 c4, .slice o5 n5 c5] 25)) (Nat.le_refl _); have D5 := D4.below (box_below w4 (.cells #[.slice o4 n4 c4, .slice o5 n5 c5] 25)) (Nat.le_refl _))
        | (go_at_call 50; (with_reducible refine (containsI_some _ xn xn xs 0 _ FX4.rd).mono ?_); rintro e w6 ⟨⟨r6, rfl⟩, q6, hq6⟩; have k6 : Below (w4.alloc (.cells #[.slice o4 n4 c4, .slice o5 n5 c5] 25)).heap.size (w4.alloc (.cells #[.slice o4 n4 c4, .slice o5 n5 c5] 25)) w6 := (by rw [hq6]; exact below_drewN (Below.refl _ _) _); clear hq6; have D6 := D5.below k6 (Nat.le_refl _); have A6 := (k6.block w4.heap.size (by simp)).trans (allocNew w4 (.cells #[.slice o4 n4 c4, .slice o5 n5 c5] 25)); obtain ⟨a0, a1, _, _⟩ := box2 A6; obtain ⟨u0, u1, u2, u3, _⟩ := D6.all; cases r6)
        | (go_at_call 51; (with_reducible refine (cIt w6 D6).mono ?_); rintro e w7 ⟨rfl, k7⟩; have D7 := D6.below k7 (Nat.le_refl _); have A7 := (k7.block w4.heap.size (Array.getElem?_eq_some_iff.1 A6).1).trans A6; obtain ⟨a0, a1, _, _⟩ := box2 A7))
      · have kW : Below w4.heap.size w4 w7 := ((box_below w4 _).trans (k6.mono (by simp))).trans (k7.mono (Nat.le_trans (by simp) k6.size))
        have FS := f4.below kW (Nat.le_refl _)
        have FA := f5.below kW (Nat.le_refl _)
        have hn5 : n5 = N := by rw [← f5.rd.len]; simp
        subst hn5
        obtain ⟨g, rfl, hgB, hgl⟩ := FA.some hN0
        have hs3 := D3.sz
        have hgl4 : g < w4.heap.size := (f5.at g 0 rfl).2
        have hga : g ≠ w4.heap.size := by omega
        have ap' : ∀ b off, o4 = some ⟨b, off, none⟩ → b ≠ g := fun b off e => by intro e2; subst e2; exact ap ⟨b, off, none⟩ ⟨b, 0, none⟩ e rfl rfl
        rw [← rsL_zero n5 an at'] at FA
        clear cI cF cIt FX FX2 FX3 FX4 f3 k3 D2 f2 k2 u0 u1 u2 u3 x0 x1 x2 x3 a0 a1 D4 D5 DV f5
        go_loopw [57] (fun i V => ∃ k : Nat, k ≤ n5 ∧ i = .int .i64 (k : Nat) ∧ w7.grownBy V (some g) ∧ Ft 2 V w3.heap.size (some ⟨g, 0, none⟩) n5 c5 (rsL n5 an at' k)) (fun i _ => n5 - (intOf i).toNat)
        case atStart => exact ⟨0, Nat.zero_le _, rfl, World.grownBy.refl _ _, FA⟩
        case round =>
          obtain ⟨k, hk, rfl, GV, FV⟩ := hrel
          clear FA
          have lw := D7.sz
          have AV := (GV.block w4.heap.size (Array.getElem?_eq_some_iff.1 A7).1 (some_ne (Ne.symm hga))).trans A7
          have YV := (GV.block (w.heap.size + 1) (by omega) (some_ne (by omega))).trans D7.y
          have XV := (GV.block (w.heap.size + 1 + 1) (by omega) (some_ne (by omega)))
          by_cases hlt : k < n5
          · obtain ⟨q, hq⟩ : ∃ q : Nat, k % an = q := ⟨_, rfl⟩
            have hqn : q < an := by rw [← hq]; exact Nat.mod_lt _ han
            have eq : Int.tmod (k : Int) (an : Int) = (q : Int) := by rw [← hq]; rfl
            obtain ⟨b2, off2, rfl, hb2, hc2⟩ := (ha.below D7.bel (Nat.le_refl _)).cells han
            have hbw : b2 < w.heap.size := by
              obtain ⟨b', o', e', hl', _⟩ := ha.cells han
              cases e'; exact hl'
            have c2 := hc2 q hqn
            have num := ha.num q hqn
            have FV2 := FV.setT k hlt (nth at' q) num.1 num.2
            rw [← hq, rsL_step hlt, hq] at FV2
            have ALL : ∀ V : World, V.heap[w4.heap.size]? = wr.heap[w4.heap.size]? → V.heap[w.heap.size + 1]? = wr.heap[w.heap.size + 1]? → V.heap[b2]? = wr.heap[b2]? → V.cell? ⟨w4.heap.size, 1, none⟩ = some (.slice (some ⟨g, 0, none⟩) n5 c5) ∧ V.cell? ⟨w.heap.size + 1, 1, none⟩ = some (.slice (some ⟨b2, off2, none⟩) an ac) ∧ V.cell? ⟨b2, off2 + q, none⟩ = some (.int .i64 (nth at' q)) ∧ (V.heap[w4.heap.size]? = wr.heap[w4.heap.size]? ∧ V.heap[w.heap.size + 1]? = wr.heap[w.heap.size + 1]? ∧ V.heap[b2]? = wr.heap[b2]?) := fun V h1 h2 h3 => ⟨(box2 (h1.trans AV)).2.1, (box2 (h2.trans YV)).2.1, (cell_same h3 _).trans (GV.cell c2 (some_ne (by show b2 ≠ g; omega))), h1, h2, h3⟩
            obtain ⟨u, hu, hz⟩ : ∃ u, wr.cell? ⟨g, k, none⟩ = some u ∧ wr.frozen? ⟨g, k, none⟩ = false := FV.slot hlt
            have tz : ¬ (an : Int) = 0 := by omega
            have tz2 : ((an : Int) == 0) = false := by simp; omega
            have wq : IntKind.i64.wrap (q : Int) = (q : Int) := wrapIn _ (by omega)
            have bq : (q : Int) < (an : Int) := by omega
            have bk : (k : Int) < (n5 : Int) := by omega
            have keep : ∀ v : Value, (wr.drew.setCell ⟨g, k, none⟩ v).heap[w4.heap.size]? = wr.heap[w4.heap.size]? ∧ (wr.drew.setCell ⟨g, k, none⟩ v).heap[w.heap.size + 1]? = wr.heap[w.heap.size + 1]? ∧ (wr.drew.setCell ⟨g, k, none⟩ v).heap[b2]? = wr.heap[b2]? := fun v => by
              have hg := set1 wr.drew g k v
              have ls := GV.size
              have l1 := (Array.getElem?_eq_some_iff.1 AV).1
              have l2 := (Array.getElem?_eq_some_iff.1 YV).1
              exact ⟨hg.block _ l1 (some_ne (Ne.symm hga)), hg.block _ l2 (some_ne (by omega)), hg.block _ (by show b2 < wr.heap.size; omega) (some_ne (by omega))⟩
            have tz3 : ¬ an = 0 := by omega
            have eq2 : (k : Int) % (an : Int) = (q : Int) := by rw [← hq]; rfl
            have wq2 : IntKind.i64.wrap (Int.tmod (k : Int) (an : Int)) = (q : Int) := by rw [eq]; exact wq
            clear hc2 num
            go_wp2
            go_region_held3 (fun V => V.cell? ⟨w4.heap.size, 1, none⟩ = some (.slice (some ⟨g, 0, none⟩) n5 c5) ∧ V.cell? ⟨w.heap.size + 1, 1, none⟩ = some (.slice (some ⟨b2, off2, none⟩) an ac) ∧ V.cell? ⟨b2, off2 + q, none⟩ = some (.int .i64 (nth at' q)) ∧ (V.heap[w4.heap.size]? = wr.heap[w4.heap.size]? ∧ V.heap[w.heap.size + 1]? = wr.heap[w.heap.size + 1]? ∧ V.heap[b2]? = wr.heap[b2]?)) (first | exact ALL _ rfl rfl rfl | exact ALL _ (keep _).1 (keep _).2.1 (keep _).2.2) (fail)
            go_wp2
            go_roundw
            case rel =>
              have FV3 := FV2.below (Below.refl _ _).drew (Nat.le_refl _)
              have g3 := set1 wr g k (.int .i64 (nth at' q))
              exact ⟨k + 1, by omega, by go_num, ⟨g3.os.trans GV.os, g3.tape.trans GV.tape, g3.output.trans GV.output, Nat.le_trans GV.size g3.size, fun j hj hne => (g3.block j (Nat.lt_of_lt_of_le hj GV.size) hne).trans (GV.block j hj hne)⟩, FV3⟩
            case measure => simp [intOf]; omega
          · obtain rfl : n5 = k := by omega
            obtain ⟨a0, a1, _, _⟩ := box2 AV
            obtain ⟨ru, rv, hr⟩ := D7.r
            obtain ⟨z0, z1, z2, z3⟩ := box2 (XV.trans hr)
            have FS2 := FS.keep1 GV (fun b off e => some_ne (ap' b off e))
            have BV : Below w.heap.size w wr := D7.bel.grown GV D7.bel.size (fun j e => by cases e; omega)
            go_wp2
            (try simp only [Exit.inBlock, Exit.then])
            refine bodyPost_ret (v := .tuple #[.agg #[.slice o4 n4 c4, .slice (some ⟨g, 0, none⟩) n5 c5], .int .i64 0]) (by rw [results_cell_tmp rfl]; go_simp) rfl ?_
            rw [HIT.out, HN.out]
            exact ⟨_, _, _, _, _, _, rfl, (ft_set (w := w) FS2 (by omega) _ _).mono (by omega), (ft_set (w := w) FV (by omega) _ _).mono (by omega), below_set2 _ _ _ _ BV (by omega) (Nat.le_refl _)⟩
      · have kW : Below w4.heap.size w4 w6 := (box_below w4 _).trans (k6.mono (by simp))
        have FS := f4.below kW (Nat.le_refl _)
        have FA := f5.below kW (Nat.le_refl _)
        have hn5 : n5 = N := by rw [← f5.rd.len]; simp
        subst hn5
        obtain ⟨g, rfl, hgB, hgl⟩ := FA.some hN0
        have hs3 := D3.sz
        have hgl4 : g < w4.heap.size := (f5.at g 0 rfl).2
        have hga : g ≠ w4.heap.size := by omega
        have ap' : ∀ b off, o4 = some ⟨b, off, none⟩ → b ≠ g := fun b off e => by intro e2; subst e2; exact ap ⟨b, off, none⟩ ⟨b, 0, none⟩ e rfl rfl
        rw [← rsL_zero n5 an at'] at FA
        clear cI cF cIt FX FX2 FX3 FX4 f3 k3 D2 f2 k2 u0 u1 u2 u3 x0 x1 x2 x3 a0 a1 D4 D5 DV f5
        go_loopw [57] (fun i V => ∃ k : Nat, k ≤ n5 ∧ i = .int .i64 (k : Nat) ∧ w6.grownBy V (some g) ∧ Ft 2 V w3.heap.size (some ⟨g, 0, none⟩) n5 c5 (rsL n5 an at' k)) (fun i _ => n5 - (intOf i).toNat)
        case atStart => exact ⟨0, Nat.zero_le _, rfl, World.grownBy.refl _ _, FA⟩
        case round =>
          obtain ⟨k, hk, rfl, GV, FV⟩ := hrel
          clear FA
          have lw := D6.sz
          have AV := (GV.block w4.heap.size (Array.getElem?_eq_some_iff.1 A6).1 (some_ne (Ne.symm hga))).trans A6
          have YV := (GV.block (w.heap.size + 1) (by omega) (some_ne (by omega))).trans D6.y
          have XV := (GV.block (w.heap.size + 1 + 1) (by omega) (some_ne (by omega)))
          by_cases hlt : k < n5
          · obtain ⟨q, hq⟩ : ∃ q : Nat, k % an = q := ⟨_, rfl⟩
            have hqn : q < an := by rw [← hq]; exact Nat.mod_lt _ han
            have eq : Int.tmod (k : Int) (an : Int) = (q : Int) := by rw [← hq]; rfl
            obtain ⟨b2, off2, rfl, hb2, hc2⟩ := (ha.below D6.bel (Nat.le_refl _)).cells han
            have hbw : b2 < w.heap.size := by
              obtain ⟨b', o', e', hl', _⟩ := ha.cells han
              cases e'; exact hl'
            have c2 := hc2 q hqn
            have num := ha.num q hqn
            have FV2 := FV.setT k hlt (nth at' q) num.1 num.2
            rw [← hq, rsL_step hlt, hq] at FV2
            have ALL : ∀ V : World, V.heap[w4.heap.size]? = wr.heap[w4.heap.size]? → V.heap[w.heap.size + 1]? = wr.heap[w.heap.size + 1]? → V.heap[b2]? = wr.heap[b2]? → V.cell? ⟨w4.heap.size, 1, none⟩ = some (.slice (some ⟨g, 0, none⟩) n5 c5) ∧ V.cell? ⟨w.heap.size + 1, 1, none⟩ = some (.slice (some ⟨b2, off2, none⟩) an ac) ∧ V.cell? ⟨b2, off2 + q, none⟩ = some (.int .i64 (nth at' q)) ∧ (V.heap[w4.heap.size]? = wr.heap[w4.heap.size]? ∧ V.heap[w.heap.size + 1]? = wr.heap[w.heap.size + 1]? ∧ V.heap[b2]? = wr.heap[b2]?) := fun V h1 h2 h3 => ⟨(box2 (h1.trans AV)).2.1, (box2 (h2.trans YV)).2.1, (cell_same h3 _).trans (GV.cell c2 (some_ne (by show b2 ≠ g; omega))), h1, h2, h3⟩
            obtain ⟨u, hu, hz⟩ : ∃ u, wr.cell? ⟨g, k, none⟩ = some u ∧ wr.frozen? ⟨g, k, none⟩ = false := FV.slot hlt
            have tz : ¬ (an : Int) = 0 := by omega
            have tz2 : ((an : Int) == 0) = false := by simp; omega
            have wq : IntKind.i64.wrap (q : Int) = (q : Int) := wrapIn _ (by omega)
            have bq : (q : Int) < (an : Int) := by omega
            have bk : (k : Int) < (n5 : Int) := by omega
            have keep : ∀ v : Value, (wr.drew.setCell ⟨g, k, none⟩ v).heap[w4.heap.size]? = wr.heap[w4.heap.size]? ∧ (wr.drew.setCell ⟨g, k, none⟩ v).heap[w.heap.size + 1]? = wr.heap[w.heap.size + 1]? ∧ (wr.drew.setCell ⟨g, k, none⟩ v).heap[b2]? = wr.heap[b2]? := fun v => by
              have hg := set1 wr.drew g k v
              have ls := GV.size
              have l1 := (Array.getElem?_eq_some_iff.1 AV).1
              have l2 := (Array.getElem?_eq_some_iff.1 YV).1
              exact ⟨hg.block _ l1 (some_ne (Ne.symm hga)), hg.block _ l2 (some_ne (by omega)), hg.block _ (by show b2 < wr.heap.size; omega) (some_ne (by omega))⟩
            have tz3 : ¬ an = 0 := by omega
            have eq2 : (k : Int) % (an : Int) = (q : Int) := by rw [← hq]; rfl
            have wq2 : IntKind.i64.wrap (Int.tmod (k : Int) (an : Int)) = (q : Int) := by rw [eq]; exact wq
            clear hc2 num
            go_wp2
            go_region_held3 (fun V => V.cell? ⟨w4.heap.size, 1, none⟩ = some (.slice (some ⟨g, 0, none⟩) n5 c5) ∧ V.cell? ⟨w.heap.size + 1, 1, none⟩ = some (.slice (some ⟨b2, off2, none⟩) an ac) ∧ V.cell? ⟨b2, off2 + q, none⟩ = some (.int .i64 (nth at' q)) ∧ (V.heap[w4.heap.size]? = wr.heap[w4.heap.size]? ∧ V.heap[w.heap.size + 1]? = wr.heap[w.heap.size + 1]? ∧ V.heap[b2]? = wr.heap[b2]?)) (first | exact ALL _ rfl rfl rfl | exact ALL _ (keep _).1 (keep _).2.1 (keep _).2.2) (fail)
            go_wp2
            go_roundw
            case rel =>
              have FV3 := FV2.below (Below.refl _ _).drew (Nat.le_refl _)
              have g3 := set1 wr g k (.int .i64 (nth at' q))
              exact ⟨k + 1, by omega, by go_num, ⟨g3.os.trans GV.os, g3.tape.trans GV.tape, g3.output.trans GV.output, Nat.le_trans GV.size g3.size, fun j hj hne => (g3.block j (Nat.lt_of_lt_of_le hj GV.size) hne).trans (GV.block j hj hne)⟩, FV3⟩
            case measure => simp [intOf]; omega
          · obtain rfl : n5 = k := by omega
            obtain ⟨a0, a1, _, _⟩ := box2 AV
            obtain ⟨ru, rv, hr⟩ := D6.r
            obtain ⟨z0, z1, z2, z3⟩ := box2 (XV.trans hr)
            have FS2 := FS.keep1 GV (fun b off e => some_ne (ap' b off e))
            have BV : Below w.heap.size w wr := D6.bel.grown GV D6.bel.size (fun j e => by cases e; omega)
            go_wp2
            (try simp only [Exit.inBlock, Exit.then])
            refine bodyPost_ret (v := .tuple #[.agg #[.slice o4 n4 c4, .slice (some ⟨g, 0, none⟩) n5 c5], .int .i64 0]) (by rw [results_cell_tmp rfl]; go_simp) rfl ?_
            rw [HIT.out, HN.out]
            exact ⟨_, _, _, _, _, _, rfl, (ft_set (w := w) FS2 (by omega) _ _).mono (by omega), (ft_set (w := w) FV (by omega) _ _).mono (by omega), below_set2 _ _ _ _ BV (by omega) (Nat.le_refl _)⟩
end Go.Proofs.YtjpdjnkmipfmbaaGreat



namespace Go.Proofs.YtjpdjnkmipfmbaaGreat

open Go.RowKit

set_option linter.unusedVariables false

set_option maxHeartbeats 1000000 in
theorem copied8_any (ao : Option Addr) (n cap : Nat) (zs : List Int) (w : World) (h : Rd w ao n zs) (hs : Sl ao n cap) :
    Calls Tryz.prog 71 #[.slice ao n cap] w fun e w' => ∃ o c, e = .returned (.slice o n c) ∧ Ft 2 w' w.heap.size o n c zs ∧ Below w.heap.size w w' := by
  have hroom := h.room
  go_enter Tryz.func71, Tryz.ntmps71
  go_wp2_with (at_builtin; refine wpList_joinT tyL rfl _ _ rfl w.heap.size none ao 0 0 n cap [] zs rfl rfl (Ft.nil _ _ _) h hs (by omega) (Nat.le_refl _) ?_; intro co c w1 hf hb1; rw [Nat.zero_add, List.nil_append] at hf)
  go_ret
  exact ⟨_, _, rfl, by first | exact hf | (rw [Nat.zero_add]; exact hf), hb1⟩
set_option maxHeartbeats 1000000 in
theorem copiedI_any (ao : Option Addr) (n cap : Nat) (zs : List Int) (w : World) (h : Rd w ao n zs) (hs : Sl ao n cap) :
    Calls Tryz.prog 76 #[.slice ao n cap] w fun e w' => ∃ o c, e = .returned (.slice o n c) ∧ Ft 3 w' w.heap.size o n c zs ∧ Below w.heap.size w w' := by
  have hroom := h.room
  go_enter Tryz.func76, Tryz.ntmps76
  go_wp2_with (at_builtin; refine wpList_joinT tyI rfl _ _ rfl w.heap.size none ao 0 0 n cap [] zs rfl rfl (Ft.nil _ _ _) h hs (by omega) (Nat.le_refl _) ?_; intro co c w1 hf hb1; rw [Nat.zero_add, List.nil_append] at hf)
  go_ret
  exact ⟨_, _, rfl, by first | exact hf | (rw [Nat.zero_add]; exact hf), hb1⟩

theorem Un.all {w W : World} {so : Option Addr} {sn sc : Nat} {ao : Option Addr} {an ac : Nat} (h : Un w W so sn sc ao an ac) : W.cell? ⟨w.heap.size, 0, none⟩ = some (.slice so sn sc) ∧ W.cell? ⟨w.heap.size, 1, none⟩ = some (.slice ao an ac) ∧ Un w W so sn sc ao an ac := ⟨h.c0, h.c1, h⟩
theorem Un.drew {w W : World} {so : Option Addr} {sn sc : Nat} {ao : Option Addr} {an ac : Nat} (h : Un w W so sn sc ao an ac) : Un w W.drew so sn sc ao an ac := h.below (Below.refl W.heap.size W).drew h.sz
theorem Un.set {w W : World} {so : Option Addr} {sn sc : Nat} {ao : Option Addr} {an ac : Nat} (h : Un w W so sn sc ao an ac) (u v : Value) : Un w ((W.setCell ⟨w.heap.size + 1, 0, none⟩ u).setCell ⟨w.heap.size + 1, 1, none⟩ v) so sn sc ao an ac := by
  have hg := set2 W (w.heap.size + 1) 0 1 u v
  obtain ⟨s, t, hr⟩ := h.r
  have a1 := heap_setCell_same W (w.heap.size + 1) 0 _ 25 u hr
  have a2 := heap_setCell_same _ (w.heap.size + 1) 1 _ 25 v a1
  exact ⟨hg.cell h.c0 (show some w.heap.size ≠ _ from some_ne (by omega)), hg.cell h.c1 (show some w.heap.size ≠ _ from some_ne (by omega)), ⟨u, v, by simpa using a2⟩, below_set2 _ _ _ _ h.bel (by omega) (Nat.le_refl _)⟩

set_option maxHeartbeats 2000000 in
set_option maxRecDepth 20000 in
theorem itself_any (so ao : Option Addr) (sn sc an ac : Nat) (sh at' : List Int) (w : World) (hs : Rd w so sn sh) (ss : Sl so sn sc) (ha : Rd w ao an at') (sa : Sl ao an ac) :
    Calls Tryz.prog 46 #[.agg #[.slice so sn sc, .slice ao an ac]] w fun e w' => ∃ o1 n1 c1 o2 n2 c2, e = .returned (.tuple #[.agg #[.slice o1 n1 c1, .slice o2 n2 c2], .int .i64 0]) ∧ Ft 3 w' w.heap.size o1 n1 c1 sh ∧ Ft 2 w' w.heap.size o2 n2 c2 at' ∧ Below w.heap.size w w' := by
  have U0 := un_start w so sn sc ao an ac
  have U1 := U0.drew
  have s1 := U1.sz
  have cI := copiedI_any so sn sc sh _ (hs.below U1.bel (Nat.le_refl _)) ss
  have c8 := fun V (U : Un w V so sn sc ao an ac) => copied8_any ao an ac at' V (ha.below U.bel (Nat.le_refl _)) sa
  obtain ⟨x0, x1, _⟩ := U0.all
  go_enter Tryz.func46, Tryz.ntmps46
  go_wp2
  go_region_held3 (fun V => V.cell? ⟨w.heap.size, 0, none⟩ = some (.slice so sn sc) ∧ V.cell? ⟨w.heap.size, 1, none⟩ = some (.slice ao an ac) ∧ Un w V so sn sc ao an ac) (first | exact Un.all (by assumption) | exact Un.all (Un.drew (by assumption)) | exact Un.all (Un.set (by assumption) _ _))
    (first
      | (go_at_call 76; (with_reducible refine cI.mono ?_); rintro e w4 ⟨o4, c4, rfl, f4, k4⟩; have U4 := U1.below k4 s1)
      | (go_at_call 71; (with_reducible refine (c8 w4 U4).mono ?_); rintro e w5 ⟨o5, c5, rfl, f5, k5⟩; have U5 := U4.below k5 U4.sz; obtain ⟨u5, v5, hr5⟩ := U5.r; obtain ⟨z0, z1, z2, z3⟩ := box2 hr5))
  go_wp2
  (try simp only [Exit.inBlock, Exit.then])
  refine bodyPost_ret (v := .tuple #[.agg #[.slice o4 sn c4, .slice o5 an c5], .int .i64 0]) (by rw [results_cell_tmp rfl]; go_simp) rfl ?_
  have s4 := U4.sz
  exact ⟨_, _, _, _, _, _, rfl, (ft_set (w := w) (f4.below k5 (Nat.le_refl _)) (by omega) _ _).mono (by omega), (ft_set (w := w) f5 (by omega) _ _).mono (by omega), below_set2 _ _ _ _ U5.bel (by omega) (Nat.le_refl _)⟩
end Go.Proofs.YtjpdjnkmipfmbaaGreat



namespace Go.Proofs.YtjpdjnkmipfmbaaGreat

open Go.RowKit

set_option linter.unusedVariables false

/-- What a call answers: an array and an error. -/
def Ans (w : World) (B : Nat) (S A : List Int) (E : Int) (e : Ending) (w' : World) : Prop := ∃ o1 n1 c1 o2 n2 c2, e = .returned (.tuple #[.agg #[.slice o1 n1 c1, .slice o2 n2 c2], .int .i64 E]) ∧ Ft 3 w' B o1 n1 c1 S ∧ Ft 2 w' B o2 n2 c2 A ∧ Below w.heap.size w w'

set_option maxHeartbeats 2000000 in
theorem rotate_sc (xso xo so ao : Option Addr) (xsn xsc xn xc sc an ac : Nat) (at' : List Int) (w : World) (hs : Rd w so 0 []) (ss : Sl so 0 sc) (ha : Rd w ao an at') (sa : Sl ao an ac) (hx : xn ≤ 1) :
    Calls Tryz.prog 31 #[.agg #[.slice xso xsn xsc, .slice xo xn xc], .agg #[.slice so 0 sc, .slice ao an ac]] w fun e w' => Ans w w.heap.size [] at' 0 e w' := by
  have D0 := dw_start w xso xsn xsc xo xn xc so 0 sc ao an ac
  have cI := itself_any so ao 0 sc an ac [] at' _ (hs.below D0.bel (Nat.le_refl _)) ss (ha.below D0.bel (Nat.le_refl _)) sa
  have t0 : decide (1 < xn) = false := by simp; omega
  obtain ⟨x0, x1, x2, x3, _⟩ := D0.all
  go_enter Tryz.func31, Tryz.ntmps31
  go_wp2_with (go_at_call 46; (with_reducible refine cI.mono ?_); rintro e w5 ⟨o1, n1, c1, o2, n2, c2, rfl, f1, f2, k5⟩; have D5 := D0.below k5 (Nat.le_refl _); obtain ⟨u5, v5, hr5⟩ := D5.r; obtain ⟨z0, z1, z2, z3⟩ := box2 hr5)
  (try simp only [Exit.inBlock, Exit.then])
  refine bodyPost_ret (v := .tuple #[.agg #[.slice o1 n1 c1, .slice o2 n2 c2], .int .i64 0]) (by rw [results_cell_tmp rfl]; go_simp) rfl ?_
  exact ⟨o1, n1, c1, o2, n2, c2, rfl, (ft_set (w := w) f1 (by simp) _ _).mono (by simp; omega), (ft_set (w := w) f2 (by simp) _ _).mono (by simp; omega), below_set2 _ _ _ _ D5.bel (by omega) (Nat.le_refl _)⟩

set_option maxHeartbeats 2000000 in
theorem take_call (xso xo so ao : Option Addr) (xsn xsc xn xc sn sc an ac : Nat) (S A : List Int) (E : Int) (w : World)
    (hc : ∀ V, Below w.heap.size w V → Calls Tryz.prog 63 #[.agg #[.slice xso xsn xsc, .slice xo xn xc], .agg #[.slice so sn sc, .slice ao an ac], .func (.func 64) #[] #[]] V fun e w' => Ans V V.heap.size S A E e w') :
    Calls Tryz.prog 29 #[.agg #[.slice xso xsn xsc, .slice xo xn xc], .agg #[.slice so sn sc, .slice ao an ac]] w fun e w' => Ans w w.heap.size S A E e w' := by
  have D0 := dw_start w xso xsn xsc xo xn xc so sn sc ao an ac
  have cI := hc _ D0.bel
  obtain ⟨x0, x1, x2, x3, _⟩ := D0.all
  go_enter Tryz.func29, Tryz.ntmps29
  go_wp2_with (go_at_call 63; (with_reducible refine cI.mono ?_); rintro e w5 ⟨o1, n1, c1, o2, n2, c2, rfl, f1, f2, k5⟩; have D5 := D0.below k5 (Nat.le_refl _); obtain ⟨u5, v5, hr5⟩ := D5.r; obtain ⟨z0, z1, z2, z3⟩ := box2 hr5)
  (try simp only [Exit.inBlock, Exit.then])
  refine bodyPost_ret (v := .tuple #[.agg #[.slice o1 n1 c1, .slice o2 n2 c2], .int .i64 E]) (by rw [results_cell_tmp rfl]; go_simp) rfl ?_
  exact ⟨o1, n1, c1, o2, n2, c2, rfl, (ft_set (w := w) f1 (by simp) _ _).mono (by simp; omega), (ft_set (w := w) f2 (by simp) _ _).mono (by simp; omega), below_set2 _ _ _ _ D5.bel (by omega) (Nat.le_refl _)⟩

set_option maxHeartbeats 2000000 in
theorem dyad_rev (xso xo so ao : Option Addr) (xsn xsc xn xc sn sc an ac : Nat) (sx ax sy ay S A : List Int) (E : Int) (w : World) (hsx : Rd w xso xsn sx) (hax : Rd w xo xn ax) (hsy : Rd w so sn sy) (hay : Rd w ao an ay) (mx : mayA sx ax = 0) (my : mayA sy ay = 0) (hxr : xsn ≤ 1) 
    (hc : ∀ V, Below w.heap.size w V → Calls Tryz.prog 31 #[.agg #[.slice xso xsn xsc, .slice xo xn xc], .agg #[.slice so sn sc, .slice ao an ac]] V fun e w' => Ans V V.heap.size S A E e w') :
    Calls Tryz.prog 6 #[.int .i64 32, .agg #[.slice xso xsn xsc, .slice xo xn xc], .agg #[.slice so sn sc, .slice ao an ac]] w fun e w' => Ans w w.heap.size S A E e w' := by
  have D0 := dw_start w xso xsn xsc xo xn xc so sn sc ao an ac
  have cM1 := mayA_any xso xo xsn xsc xn xc sx ax _ (hsx.below D0.bel (Nat.le_refl _)) (hax.below D0.bel (Nat.le_refl _))
  have cM2 := fun V (D : Dw w V xso xsn xsc xo xn xc so sn sc ao an ac) => mayA_any so ao sn sc an ac sy ay V (hsy.below D.bel (Nat.le_refl _)) (hay.below D.bel (Nat.le_refl _))
  rw [mx] at cM1
  rw [my] at cM2
  have cD := fun V => dyadOf_yes 32 6 V (by omega) rfl (by intro j hj; match j, hj with | 0, _ => exact (by decide : dOp 0 ≠ 32) | 1, _ => exact (by decide : dOp 1 ≠ 32) | 2, _ => exact (by decide : dOp 2 ≠ 32) | 3, _ => exact (by decide : dOp 3 ≠ 32) | 4, _ => exact (by decide : dOp 4 ≠ 32) | 5, _ => exact (by decide : dOp 5 ≠ 32))
  rw [show dFnN 6 = 31 from rfl, show dNum 6 = true from rfl] at cD
  have t0 : decide (1 < xsn) = false := by simp; omega
  obtain ⟨x0, x1, x2, x3, _⟩ := D0.all
  clear mx my
  go_enter Tryz.func6, Tryz.ntmps6
  go_wp2_with (first
    | (go_at_call 18; (with_reducible refine cM1.mono ?_); rintro e w1 ⟨rfl, k1⟩; have D1 := D0.below k1 (Nat.le_refl _); obtain ⟨y0, y1, y2, y3, _⟩ := D1.all)
    | (go_at_call 18; (with_reducible refine (cM2 w1 D1).mono ?_); rintro e w2 ⟨rfl, k2⟩; have D2 := D1.below k2 (Nat.le_refl _))
    | (go_at_call 19; (with_reducible refine (cD w2).mono ?_); rintro e w3 ⟨rfl, k3⟩; have D3 := D2.below k3 (Nat.le_refl _); have D4 := D3.below (box_below w3 (.cells #[.int .i64 32, .bool true, .func (.func 31) #[] #[]] 46)) (Nat.le_refl _); obtain ⟨v0, v1, v2, v3, _⟩ := D4.all)
    | (go_at_call 31; (with_reducible refine (hc _ D4.bel).mono ?_); rintro e w5 ⟨o1, n1, c1, o2, n2, c2, rfl, f1, f2, k5⟩; have D5 := D4.below k5 (Nat.le_refl _); obtain ⟨u5, v5, hr5⟩ := D5.r; obtain ⟨z0, z1, z2, z3⟩ := box2 hr5))
  (try simp only [Exit.inBlock, Exit.then])
  refine bodyPost_ret (v := .tuple #[.agg #[.slice o1 n1 c1, .slice o2 n2 c2], .int .i64 E]) (by rw [results_cell_tmp rfl]; go_simp) rfl ?_
  have s3 := D3.sz
  exact ⟨o1, n1, c1, o2, n2, c2, rfl, (ft_set (w := w) f1 (by simp; omega) _ _).mono (by simp; omega), (ft_set (w := w) f2 (by simp; omega) _ _).mono (by simp; omega), below_set2 _ _ _ _ D5.bel (by omega) (Nat.le_refl _)⟩

set_option maxHeartbeats 2000000 in
theorem dyad_take (xso xo so ao : Option Addr) (xsn xsc xn xc sn sc an ac : Nat) (sx ax sy ay S A : List Int) (E : Int) (w : World) (hsx : Rd w xso xsn sx) (hax : Rd w xo xn ax) (hsy : Rd w so sn sy) (hay : Rd w ao an ay) (mx : mayA sx ax = 0) (my : mayA sy ay = 0) (hxr : xsn ≤ 1) 
    (hc : ∀ V, Below w.heap.size w V → Calls Tryz.prog 29 #[.agg #[.slice xso xsn xsc, .slice xo xn xc], .agg #[.slice so sn sc, .slice ao an ac]] V fun e w' => Ans V V.heap.size S A E e w') :
    Calls Tryz.prog 6 #[.int .i64 28, .agg #[.slice xso xsn xsc, .slice xo xn xc], .agg #[.slice so sn sc, .slice ao an ac]] w fun e w' => Ans w w.heap.size S A E e w' := by
  have D0 := dw_start w xso xsn xsc xo xn xc so sn sc ao an ac
  have cM1 := mayA_any xso xo xsn xsc xn xc sx ax _ (hsx.below D0.bel (Nat.le_refl _)) (hax.below D0.bel (Nat.le_refl _))
  have cM2 := fun V (D : Dw w V xso xsn xsc xo xn xc so sn sc ao an ac) => mayA_any so ao sn sc an ac sy ay V (hsy.below D.bel (Nat.le_refl _)) (hay.below D.bel (Nat.le_refl _))
  rw [mx] at cM1
  rw [my] at cM2
  have cD := fun V => dyadOf_yes 28 4 V (by omega) rfl (by intro j hj; match j, hj with | 0, _ => exact (by decide : dOp 0 ≠ 28) | 1, _ => exact (by decide : dOp 1 ≠ 28) | 2, _ => exact (by decide : dOp 2 ≠ 28) | 3, _ => exact (by decide : dOp 3 ≠ 28))
  rw [show dFnN 4 = 29 from rfl, show dNum 4 = true from rfl] at cD
  have t0 : decide (1 < xsn) = false := by simp; omega
  obtain ⟨x0, x1, x2, x3, _⟩ := D0.all
  clear mx my
  go_enter Tryz.func6, Tryz.ntmps6
  go_wp2_with (first
    | (go_at_call 18; (with_reducible refine cM1.mono ?_); rintro e w1 ⟨rfl, k1⟩; have D1 := D0.below k1 (Nat.le_refl _); obtain ⟨y0, y1, y2, y3, _⟩ := D1.all)
    | (go_at_call 18; (with_reducible refine (cM2 w1 D1).mono ?_); rintro e w2 ⟨rfl, k2⟩; have D2 := D1.below k2 (Nat.le_refl _))
    | (go_at_call 19; (with_reducible refine (cD w2).mono ?_); rintro e w3 ⟨rfl, k3⟩; have D3 := D2.below k3 (Nat.le_refl _); have D4 := D3.below (box_below w3 (.cells #[.int .i64 28, .bool true, .func (.func 29) #[] #[]] 46)) (Nat.le_refl _); obtain ⟨v0, v1, v2, v3, _⟩ := D4.all)
    | (go_at_call 29; (with_reducible refine (hc _ D4.bel).mono ?_); rintro e w5 ⟨o1, n1, c1, o2, n2, c2, rfl, f1, f2, k5⟩; have D5 := D4.below k5 (Nat.le_refl _); obtain ⟨u5, v5, hr5⟩ := D5.r; obtain ⟨z0, z1, z2, z3⟩ := box2 hr5))
  (try simp only [Exit.inBlock, Exit.then])
  refine bodyPost_ret (v := .tuple #[.agg #[.slice o1 n1 c1, .slice o2 n2 c2], .int .i64 E]) (by rw [results_cell_tmp rfl]; go_simp) rfl ?_
  have s3 := D3.sz
  exact ⟨o1, n1, c1, o2, n2, c2, rfl, (ft_set (w := w) f1 (by simp; omega) _ _).mono (by simp; omega), (ft_set (w := w) f2 (by simp; omega) _ _).mono (by simp; omega), below_set2 _ _ _ _ D5.bel (by omega) (Nat.le_refl _)⟩

set_option maxHeartbeats 2000000 in
theorem dyad_ravel (xso xo so ao : Option Addr) (xsn xsc xn xc sn sc an ac : Nat) (sx ax sy ay S A : List Int) (E : Int) (w : World) (hsx : Rd w xso xsn sx) (hax : Rd w xo xn ax) (hsy : Rd w so sn sy) (hay : Rd w ao an ay) (mx : mayA sx ax = 0) (my : mayA sy ay = 0) 
    (hc : ∀ V, Below w.heap.size w V → Calls Tryz.prog 26 #[.agg #[.slice xso xsn xsc, .slice xo xn xc], .agg #[.slice so sn sc, .slice ao an ac]] V fun e w' => Ans V V.heap.size S A E e w') :
    Calls Tryz.prog 6 #[.int .i64 24, .agg #[.slice xso xsn xsc, .slice xo xn xc], .agg #[.slice so sn sc, .slice ao an ac]] w fun e w' => Ans w w.heap.size S A E e w' := by
  have D0 := dw_start w xso xsn xsc xo xn xc so sn sc ao an ac
  have cM1 := mayA_any xso xo xsn xsc xn xc sx ax _ (hsx.below D0.bel (Nat.le_refl _)) (hax.below D0.bel (Nat.le_refl _))
  have cM2 := fun V (D : Dw w V xso xsn xsc xo xn xc so sn sc ao an ac) => mayA_any so ao sn sc an ac sy ay V (hsy.below D.bel (Nat.le_refl _)) (hay.below D.bel (Nat.le_refl _))
  rw [mx] at cM1
  rw [my] at cM2
  have cD := fun V => dyadOf_yes 24 1 V (by omega) rfl (by intro j hj; match j, hj with | 0, _ => exact (by decide : dOp 0 ≠ 24))
  rw [show dFnN 1 = 26 from rfl, show dNum 1 = false from rfl] at cD
  obtain ⟨x0, x1, x2, x3, _⟩ := D0.all
  clear mx my
  go_enter Tryz.func6, Tryz.ntmps6
  go_wp2_with (first
    | (go_at_call 18; (with_reducible refine cM1.mono ?_); rintro e w1 ⟨rfl, k1⟩; have D1 := D0.below k1 (Nat.le_refl _); obtain ⟨y0, y1, y2, y3, _⟩ := D1.all)
    | (go_at_call 18; (with_reducible refine (cM2 w1 D1).mono ?_); rintro e w2 ⟨rfl, k2⟩; have D2 := D1.below k2 (Nat.le_refl _))
    | (go_at_call 19; (with_reducible refine (cD w2).mono ?_); rintro e w3 ⟨rfl, k3⟩; have D3 := D2.below k3 (Nat.le_refl _); have D4 := D3.below (box_below w3 (.cells #[.int .i64 24, .bool false, .func (.func 26) #[] #[]] 46)) (Nat.le_refl _); obtain ⟨v0, v1, v2, v3, _⟩ := D4.all)
    | (go_at_call 26; (with_reducible refine (hc _ D4.bel).mono ?_); rintro e w5 ⟨o1, n1, c1, o2, n2, c2, rfl, f1, f2, k5⟩; have D5 := D4.below k5 (Nat.le_refl _); obtain ⟨u5, v5, hr5⟩ := D5.r; obtain ⟨z0, z1, z2, z3⟩ := box2 hr5))
  (try simp only [Exit.inBlock, Exit.then])
  refine bodyPost_ret (v := .tuple #[.agg #[.slice o1 n1 c1, .slice o2 n2 c2], .int .i64 E]) (by rw [results_cell_tmp rfl]; go_simp) rfl ?_
  have s3 := D3.sz
  exact ⟨o1, n1, c1, o2, n2, c2, rfl, (ft_set (w := w) f1 (by simp; omega) _ _).mono (by simp; omega), (ft_set (w := w) f2 (by simp; omega) _ _).mono (by simp; omega), below_set2 _ _ _ _ D5.bel (by omega) (Nat.le_refl _)⟩

set_option maxHeartbeats 2000000 in
theorem dyad_shape (xso xo so ao : Option Addr) (xsn xsc xn xc sn sc an ac : Nat) (sx ax sy ay S A : List Int) (E : Int) (w : World) (hsx : Rd w xso xsn sx) (hax : Rd w xo xn ax) (hsy : Rd w so sn sy) (hay : Rd w ao an ay) (mx : mayA sx ax = 0) (my : mayA sy ay = 0) (hxr : xsn ≤ 1) 
    (hc : ∀ V, Below w.heap.size w V → Calls Tryz.prog 25 #[.agg #[.slice xso xsn xsc, .slice xo xn xc], .agg #[.slice so sn sc, .slice ao an ac]] V fun e w' => Ans V V.heap.size S A E e w') :
    Calls Tryz.prog 6 #[.int .i64 23, .agg #[.slice xso xsn xsc, .slice xo xn xc], .agg #[.slice so sn sc, .slice ao an ac]] w fun e w' => Ans w w.heap.size S A E e w' := by
  have D0 := dw_start w xso xsn xsc xo xn xc so sn sc ao an ac
  have cM1 := mayA_any xso xo xsn xsc xn xc sx ax _ (hsx.below D0.bel (Nat.le_refl _)) (hax.below D0.bel (Nat.le_refl _))
  have cM2 := fun V (D : Dw w V xso xsn xsc xo xn xc so sn sc ao an ac) => mayA_any so ao sn sc an ac sy ay V (hsy.below D.bel (Nat.le_refl _)) (hay.below D.bel (Nat.le_refl _))
  rw [mx] at cM1
  rw [my] at cM2
  have cD := fun V => dyadOf_yes 23 0 V (by omega) rfl (by intro j hj; match j, hj with  | _, h => omega)
  rw [show dFnN 0 = 25 from rfl, show dNum 0 = true from rfl] at cD
  have t0 : decide (1 < xsn) = false := by simp; omega
  obtain ⟨x0, x1, x2, x3, _⟩ := D0.all
  clear mx my
  go_enter Tryz.func6, Tryz.ntmps6
  go_wp2_with (first
    | (go_at_call 18; (with_reducible refine cM1.mono ?_); rintro e w1 ⟨rfl, k1⟩; have D1 := D0.below k1 (Nat.le_refl _); obtain ⟨y0, y1, y2, y3, _⟩ := D1.all)
    | (go_at_call 18; (with_reducible refine (cM2 w1 D1).mono ?_); rintro e w2 ⟨rfl, k2⟩; have D2 := D1.below k2 (Nat.le_refl _))
    | (go_at_call 19; (with_reducible refine (cD w2).mono ?_); rintro e w3 ⟨rfl, k3⟩; have D3 := D2.below k3 (Nat.le_refl _); have D4 := D3.below (box_below w3 (.cells #[.int .i64 23, .bool true, .func (.func 25) #[] #[]] 46)) (Nat.le_refl _); obtain ⟨v0, v1, v2, v3, _⟩ := D4.all)
    | (go_at_call 25; (with_reducible refine (hc _ D4.bel).mono ?_); rintro e w5 ⟨o1, n1, c1, o2, n2, c2, rfl, f1, f2, k5⟩; have D5 := D4.below k5 (Nat.le_refl _); obtain ⟨u5, v5, hr5⟩ := D5.r; obtain ⟨z0, z1, z2, z3⟩ := box2 hr5))
  (try simp only [Exit.inBlock, Exit.then])
  refine bodyPost_ret (v := .tuple #[.agg #[.slice o1 n1 c1, .slice o2 n2 c2], .int .i64 E]) (by rw [results_cell_tmp rfl]; go_simp) rfl ?_
  have s3 := D3.sz
  exact ⟨o1, n1, c1, o2, n2, c2, rfl, (ft_set (w := w) f1 (by simp; omega) _ _).mono (by simp; omega), (ft_set (w := w) f2 (by simp; omega) _ _).mono (by simp; omega), below_set2 _ _ _ _ D5.bel (by omega) (Nat.le_refl _)⟩

set_option maxHeartbeats 2000000 in
theorem monad_tran (so ao : Option Addr) (sn sc an ac : Nat) (sy ay S A : List Int) (E : Int) (w : World) (hsy : Rd w so sn sy) (hay : Rd w ao an ay) (my : mayA sy ay = 0)
    (hc : ∀ V, Below w.heap.size w V → Calls Tryz.prog 45 #[.agg #[.slice so sn sc, .slice ao an ac]] V fun e w' => Ans V V.heap.size S A E e w') :
    Calls Tryz.prog 12 #[.int .i64 33, .agg #[.slice so sn sc, .slice ao an ac]] w fun e w' => Ans w w.heap.size S A E e w' := by
  have U0 := un_start w so sn sc ao an ac
  have s0 := U0.sz
  have cM1 := mayA_any so ao sn sc an ac sy ay _ (hsy.below U0.bel (Nat.le_refl _)) (hay.below U0.bel (Nat.le_refl _))
  rw [my] at cM1
  have cD := fun V => monadOf_yes 33 10 V (by omega) rfl (by intro j hj; match j, hj with | 0, _ => exact (by decide : mOp 0 ≠ 33) | 1, _ => exact (by decide : mOp 1 ≠ 33) | 2, _ => exact (by decide : mOp 2 ≠ 33) | 3, _ => exact (by decide : mOp 3 ≠ 33) | 4, _ => exact (by decide : mOp 4 ≠ 33) | 5, _ => exact (by decide : mOp 5 ≠ 33) | 6, _ => exact (by decide : mOp 6 ≠ 33) | 7, _ => exact (by decide : mOp 7 ≠ 33) | 8, _ => exact (by decide : mOp 8 ≠ 33) | 9, _ => exact (by decide : mOp 9 ≠ 33))
  rw [show mFnN 10 = 45 from rfl] at cD
  obtain ⟨x0, x1, _⟩ := U0.all
  clear my
  go_enter Tryz.func12, Tryz.ntmps12
  go_wp2_with (first
    | (go_at_call 18; (with_reducible refine cM1.mono ?_); rintro e w1 ⟨rfl, k1⟩; have U1 := U0.below k1 s0; have s1 := U1.sz)
    | (go_at_call 22; (with_reducible refine (cD w1).mono ?_); rintro e w3 ⟨rfl, k3⟩; have U3 := U1.below k3 s1; have s3 := U3.sz; have U4 := U3.below (box_below w3 (.cells #[.int .i64 33, .func (.func 45) #[] #[]] 54)) s3; obtain ⟨v0, v1, _⟩ := U4.all)
    | (go_at_call 45; (with_reducible refine (hc _ U4.bel).mono ?_); rintro e w5 ⟨o1, n1, c1, o2, n2, c2, rfl, f1, f2, k5⟩; have U5 := U4.below k5 U4.sz; obtain ⟨u5, v5, hr5⟩ := U5.r; obtain ⟨z0, z1, z2, z3⟩ := box2 hr5))
  (try simp only [Exit.inBlock, Exit.then])
  refine bodyPost_ret (v := .tuple #[.agg #[.slice o1 n1 c1, .slice o2 n2 c2], .int .i64 E]) (by rw [results_cell_tmp rfl]; go_simp) rfl ?_
  exact ⟨o1, n1, c1, o2, n2, c2, rfl, (ft_set (w := w) f1 (by simp; omega) _ _).mono (by simp; omega), (ft_set (w := w) f2 (by simp; omega) _ _).mono (by simp; omega), below_set2 _ _ _ _ U5.bel (by omega) (Nat.le_refl _)⟩

theorem has_28_2 (w : World) : Calls Tryz.prog 16 #[.int .i64 28, .int .i64 2] w fun e w' => e = .returned (.bool true) ∧ Below w.heap.size w w' := by
  have cD := fun V => dyadOf_yes 28 4 V (by omega) rfl (by intro j hj; match j, hj with | 0, _ => exact (by decide : dOp 0 ≠ 28) | 1, _ => exact (by decide : dOp 1 ≠ 28) | 2, _ => exact (by decide : dOp 2 ≠ 28) | 3, _ => exact (by decide : dOp 3 ≠ 28))
  go_enter Tryz.func16, Tryz.ntmps16
  go_wp2_with (go_at_call 19; (with_reducible refine (cD _).mono ?_); rintro e w3 ⟨rfl, k3⟩)
  go_ret
  exact ⟨rfl, k3⟩
theorem has_30_2 (w : World) : Calls Tryz.prog 16 #[.int .i64 30, .int .i64 2] w fun e w' => e = .returned (.bool false) ∧ Below w.heap.size w w' := by
  have cD := fun V => dyadOf_no 30 V (by intro j hj; match j, hj with | 0, _ => exact (by decide : dOp 0 ≠ 30) | 1, _ => exact (by decide : dOp 1 ≠ 30) | 2, _ => exact (by decide : dOp 2 ≠ 30) | 3, _ => exact (by decide : dOp 3 ≠ 30) | 4, _ => exact (by decide : dOp 4 ≠ 30) | 5, _ => exact (by decide : dOp 5 ≠ 30) | 6, _ => exact (by decide : dOp 6 ≠ 30) | 7, _ => exact (by decide : dOp 7 ≠ 30) | 8, _ => exact (by decide : dOp 8 ≠ 30) | 9, _ => exact (by decide : dOp 9 ≠ 30))
  go_enter Tryz.func16, Tryz.ntmps16
  go_wp2_with (go_at_call 19; (with_reducible refine (cD _).mono ?_); rintro e w3 ⟨rfl, k3⟩)
  go_ret
  exact ⟨rfl, k3⟩
theorem has_30_1 (w : World) : Calls Tryz.prog 16 #[.int .i64 30, .int .i64 1] w fun e w' => e = .returned (.bool true) ∧ Below w.heap.size w w' := by
  have cD := fun V => monadOf_yes 30 6 V (by omega) rfl (by intro j hj; match j, hj with | 0, _ => exact (by decide : mOp 0 ≠ 30) | 1, _ => exact (by decide : mOp 1 ≠ 30) | 2, _ => exact (by decide : mOp 2 ≠ 30) | 3, _ => exact (by decide : mOp 3 ≠ 30) | 4, _ => exact (by decide : mOp 4 ≠ 30) | 5, _ => exact (by decide : mOp 5 ≠ 30))
  go_enter Tryz.func16, Tryz.ntmps16
  go_wp2_with (go_at_call 22; (with_reducible refine (cD _).mono ?_); rintro e w3 ⟨rfl, k3⟩)
  go_ret
  exact ⟨rfl, k3⟩
theorem lack_30 (w : World) : Calls Tryz.prog 20 #[.int .i64 30] w fun e w' => e = .returned (.int .i64 16) ∧ Below w.heap.size w w' := by
  go_enter Tryz.func20, Tryz.ntmps20
  go_wp2_with (go_at_call 16; (with_reducible refine (has_30_1 _).mono ?_); rintro e w3 ⟨rfl, k3⟩)
  go_ret
  exact ⟨rfl, k3⟩
set_option maxHeartbeats 2000000 in
theorem dyad_tail (xso xo so ao : Option Addr) (xsn xsc xn xc sn sc an ac : Nat) (sx ax sy ay : List Int) (w : World) (hsx : Rd w xso xsn sx) (hax : Rd w xo xn ax) (hsy : Rd w so sn sy) (hay : Rd w ao an ay) (mx : mayA sx ax = 0) (my : mayA sy ay = 0) :
    Calls Tryz.prog 6 #[.int .i64 30, .agg #[.slice xso xsn xsc, .slice xo xn xc], .agg #[.slice so sn sc, .slice ao an ac]] w fun e w' => e = .returned (.tuple #[.agg #[.slice none 0 0, .slice none 0 0], .int .i64 16]) ∧ Below w.heap.size w w' := by
  have D0 := dw_start w xso xsn xsc xo xn xc so sn sc ao an ac
  have cM1 := mayA_any xso xo xsn xsc xn xc sx ax _ (hsx.below D0.bel (Nat.le_refl _)) (hax.below D0.bel (Nat.le_refl _))
  have cM2 := fun V (D : Dw w V xso xsn xsc xo xn xc so sn sc ao an ac) => mayA_any so ao sn sc an ac sy ay V (hsy.below D.bel (Nat.le_refl _)) (hay.below D.bel (Nat.le_refl _))
  rw [mx] at cM1
  rw [my] at cM2
  have cD := fun V => dyadOf_no 30 V (by intro j hj; match j, hj with | 0, _ => exact (by decide : dOp 0 ≠ 30) | 1, _ => exact (by decide : dOp 1 ≠ 30) | 2, _ => exact (by decide : dOp 2 ≠ 30) | 3, _ => exact (by decide : dOp 3 ≠ 30) | 4, _ => exact (by decide : dOp 4 ≠ 30) | 5, _ => exact (by decide : dOp 5 ≠ 30) | 6, _ => exact (by decide : dOp 6 ≠ 30) | 7, _ => exact (by decide : dOp 7 ≠ 30) | 8, _ => exact (by decide : dOp 8 ≠ 30) | 9, _ => exact (by decide : dOp 9 ≠ 30))
  obtain ⟨x0, x1, x2, x3, _⟩ := D0.all
  clear mx my
  go_enter Tryz.func6, Tryz.ntmps6
  go_wp2_with (first
    | (go_at_call 18; (with_reducible refine cM1.mono ?_); rintro e w1 ⟨rfl, k1⟩; have D1 := D0.below k1 (Nat.le_refl _); obtain ⟨y0, y1, y2, y3, _⟩ := D1.all)
    | (go_at_call 18; (with_reducible refine (cM2 w1 D1).mono ?_); rintro e w2 ⟨rfl, k2⟩; have D2 := D1.below k2 (Nat.le_refl _))
    | (go_at_call 19; (with_reducible refine (cD w2).mono ?_); rintro e w3 ⟨rfl, k3⟩; have D3 := D2.below k3 (Nat.le_refl _); have D4 := D3.below (box_below w3 (.cells #[.int .i64 0, .bool false, .nilFunc] 46)) (Nat.le_refl _))
    | (go_at_call 20; (with_reducible refine (lack_30 _).mono ?_); rintro e w5 ⟨rfl, k5⟩; have D5 := D4.below k5 (Nat.le_refl _); obtain ⟨u5, v5, hr5⟩ := D5.r; obtain ⟨z0, z1, z2, z3⟩ := box2 hr5))
  (try simp only [Exit.inBlock, Exit.then])
  refine bodyPost_ret (v := .tuple #[.agg #[.slice none 0 0, .slice none 0 0], .int .i64 16]) (by rw [results_cell_tmp rfl]; go_simp) rfl ?_
  exact ⟨rfl, below_set2 _ _ _ _ D5.bel (by omega) (Nat.le_refl _)⟩
end Go.Proofs.YtjpdjnkmipfmbaaGreat


namespace Go.Proofs.YtjpdjnkmipfmbaaGreat

open Go.RowKit

set_option linter.unusedVariables false

/-- A list that lies in a box. -/
def Hold (V : World) (b j : Nat) (o : Option Addr) (n c : Nat) (zs : List Int) : Prop := V.cell? ⟨b, j, none⟩ = some (.slice o n c) ∧ Rd V o n zs
theorem Hold.below {V V' : World} {b j : Nat} {o : Option Addr} {n c : Nat} {zs : List Int} (h : Hold V b j o n c zs) (k : Below V.heap.size V V') : Hold V' b j o n c zs :=
  ⟨(k.cell (p := ⟨b, j, none⟩) (World.block_lt_of_cell? V _ h.1)).trans h.1, h.2.below k (Nat.le_refl _)⟩
theorem hold_box {V : World} {o1 o2 : Option Addr} {n1 c1 n2 c2 : Nat} {S A : List Int} (h1 : Rd V o1 n1 S) (h2 : Rd V o2 n2 A) : Hold (V.alloc (.cells #[.slice o1 n1 c1, .slice o2 n2 c2] 25)) V.heap.size 0 o1 n1 c1 S ∧ Hold (V.alloc (.cells #[.slice o1 n1 c1, .slice o2 n2 c2] 25)) V.heap.size 1 o2 n2 c2 A := by
  obtain ⟨x0, x1, _, _⟩ := box2 (allocNew V (.cells #[.slice o1 n1 c1, .slice o2 n2 c2] 25))
  exact ⟨⟨x0, h1.below (box_below V _) (Nat.le_refl _)⟩, ⟨x1, h2.below (box_below V _) (Nat.le_refl _)⟩⟩
theorem table6_any (w : World) : Calls Tryz.prog 15 #[] w fun e w' => ∃ o1 o2, e = .returned (.agg #[.slice (some o1) 2 2, .slice (some o2) 6 6]) ∧ Ft 3 w' w.heap.size (some o1) 2 2 [2, 3] ∧ Ft 2 w' w.heap.size (some o2) 6 6 [1, 2, 3, 4, 5, 6] ∧ Below w.heap.size w w' := by
  go_enter Tryz.func15, Tryz.ntmps15
  go_wp2
  go_returns
  have f1 := ft_new 3 (w.alloc (.cells #[.slice (some ⟨w.heap.size + 1, 0, none⟩) 2 2, .slice (some ⟨w.heap.size + 1 + 1, 0, none⟩) 6 6] 25)) [2, 3] (by simp) (by decide)
  have f2 := ft_new 2 ((w.alloc (.cells #[.slice (some ⟨w.heap.size + 1, 0, none⟩) 2 2, .slice (some ⟨w.heap.size + 1 + 1, 0, none⟩) 6 6] 25)).alloc (.cells #[.int .i64 2, .int .i64 3] 3)) [1, 2, 3, 4, 5, 6] (by simp) (by decide)
  have f1' := f1.below (box_below _ (.cells #[.int .i64 1, .int .i64 2, .int .i64 3, .int .i64 4, .int .i64 5, .int .i64 6] 2)) (Nat.le_refl _)
  simp only [World.size_alloc] at f1' f2
  exact ⟨_, _, rfl, f1'.mono (by omega), f2.mono (by omega), three_below w _ _ _⟩
theorem scalar6_any (n : Int) (w : World) (h1 : -9223372036854775808 ≤ n) (h2 : n ≤ 9223372036854775807) : Calls Tryz.prog 13 #[.int .i64 n] w fun e w' => ∃ o2, e = .returned (.agg #[.slice none 0 0, .slice (some o2) 1 1]) ∧ Ft 2 w' w.heap.size (some o2) 1 1 [n] ∧ Below w.heap.size w w' := by
  go_enter Tryz.func13, Tryz.ntmps13
  go_wp2
  go_returns
  have f2 := ft_new 2 (w.alloc (.cells #[.slice none 0 0, .slice (some ⟨w.heap.size + 1, 0, none⟩) 1 1] 25)) [n] (by simp) (num1 h1 h2)
  simp only [World.size_alloc] at f2
  exact ⟨_, rfl, f2.mono (by omega), (box_below w _).trans ((box_below _ _).mono (by simp))⟩
set_option maxHeartbeats 1000000 in
theorem list6_any (ao : Option Addr) (n c : Nat) (zs : List Int) (w : World) (h : Rd w ao n zs) (hs : Sl ao n c) (hn : n ≤ 4096) : Calls Tryz.prog 7 #[.slice ao n c] w fun e w' => ∃ o1 o2 c2, e = .returned (.agg #[.slice (some o1) 1 1, .slice o2 n c2]) ∧ Ft 3 w' w.heap.size (some o1) 1 1 [(n : Int)] ∧ Ft 2 w' w.heap.size o2 n c2 zs ∧ Below w.heap.size w w' := by
  have b0 := allocNew w (.cells #[.slice none 0 0, .slice none 0 0] 25)
  have k0 := box_below w (.cells #[.slice none 0 0, .slice none 0 0] 25)
  have f1 := ft_new 3 (w.alloc (.cells #[.slice none 0 0, .slice none 0 0] 25)) [(n : Int)] (by simp) (num1 (by omega) (by omega))
  have k1 := box_below (w.alloc (.cells #[.slice none 0 0, .slice none 0 0] 25)) (.cells #[.int .i64 (n : Nat)] 3)
  rw [World.size_alloc] at f1
  have hr := h.room
  go_enter Tryz.func7, Tryz.ntmps7
  go_wp2_with (at_builtin; refine wpList_joinT tyL rfl _ _ rfl (w.heap.size + 2) none ao 0 0 n c [] zs rfl rfl (Ft.nil _ _ _) ((h.below k0 (Nat.le_refl _)).below k1 (Nat.le_refl _)) hs (by omega) (by simp) ?_; intro co c2 w1 hf hb1; rw [Nat.zero_add, List.nil_append] at hf; have r1 := (hb1.block w.heap.size (by omega)).trans ((k1.block w.heap.size (by simp)).trans b0); obtain ⟨y0, y1, z0, z1⟩ := box2 r1)
  (try simp only [Exit.inBlock, Exit.then])
  refine bodyPost_ret (v := .agg #[.slice (some ⟨w.heap.size + 1, 0, none⟩) 1 1, .slice co n c2]) (by simp [results, Tryz.results7]; go_simp) rfl ?_
  have f1' := f1.below hb1 (by simp)
  refine ⟨_, _, _, rfl, (ft_set (w := w) f1' (by omega) _ _).mono (by omega), (ft_set (w := w) hf (by omega) _ _).mono (by omega), below_set2 _ _ _ _ ((k0.trans (k1.mono (by simp))).trans (hb1.mono (by omega))) (Nat.le_refl _) (Nat.le_refl _)⟩

theorem c6_tran (w : World) (so ao : Option Addr) (sc ac : Nat) (hs : Rd w so 2 [2, 3]) (ha : Rd w ao 6 [1, 2, 3, 4, 5, 6]) : Calls Tryz.prog 12 #[.int .i64 33, .agg #[.slice so 2 sc, .slice ao 6 ac]] w fun e w' => Ans w w.heap.size [3, 2] [1, 4, 2, 5, 3, 6] 0 e w' :=
  monad_tran so ao 2 sc 6 ac [2, 3] [1, 2, 3, 4, 5, 6] [3, 2] [1, 4, 2, 5, 3, 6] 0 w hs ha (by decide) (fun V k => by
    have := transpose_any so ao 2 sc 6 ac [2, 3] [1, 2, 3, 4, 5, 6] V (hs.below k (Nat.le_refl _)) (ha.below k (Nat.le_refl _)) (by decide) (fun _ => by
      rw [show pls (axsOf [2, 3]).reverse = [0, 3, 1, 4, 2, 5] by decide]
      decide)
    rw [show lens (axsOf [2, 3]).reverse = [3, 2] by decide, show mayF [3, 2] = 0 by decide, show filS [3, 2] = [3, 2] by decide, show gthS [1, 2, 3, 4, 5, 6] (axsOf [2, 3]).reverse = [1, 4, 2, 5, 3, 6] by decide] at this
    exact this)
theorem c6_ravel (w : World) (so ao bo : Option Addr) (sc ac bc : Nat) (hs : Rd w so 2 [2, 3]) (ss : Sl so 2 sc) (ha : Rd w ao 6 [1, 2, 3, 4, 5, 6]) (hb : Rd w bo 1 [9]) : Calls Tryz.prog 6 #[.int .i64 24, .agg #[.slice so 2 sc, .slice ao 6 ac], .agg #[.slice none 0 0, .slice bo 1 bc]] w fun e w' => Ans w w.heap.size [3, 3] [1, 2, 3, 4, 5, 6, 9, 9, 9] 0 e w' :=
  dyad_ravel so ao none bo 2 sc 6 ac 0 0 1 bc [2, 3] [1, 2, 3, 4, 5, 6] [] [9] [3, 3] [1, 2, 3, 4, 5, 6, 9, 9, 9] 0 w hs ha (Rd.nil w) hb (by decide) (by decide) (fun V k => by
    have := join_sc so ao none bo 2 sc 6 ac 0 1 bc [2, 3] [1, 2, 3, 4, 5, 6] [9] V (hs.below k (Nat.le_refl _)) ss (ha.below k (Nat.le_refl _)) (Rd.nil V) ⟨fun _ => ⟨rfl, rfl⟩, by omega, by omega⟩ (hb.below k (Nat.le_refl _)) (by decide) (by omega) (by omega)
    rw [show ((nth [2, 3] 0 + nth (1 :: [2, 3].drop 1) 0) :: [2, 3].drop 1 : List Int) = [3, 3] by decide, show mayF [3, 3] = 0 by decide, show filS [3, 3] = [3, 3] by decide, show jnA [3, 3] ([1, 2, 3, 4, 5, 6] ++ List.replicate (pr ([2, 3].drop 1)).toNat (nth [9] 0)) = [1, 2, 3, 4, 5, 6, 9, 9, 9] by decide] at this
    exact this)
theorem c6_take (w : World) (xso xo so ao : Option Addr) (xsc xc sc ac : Nat) (hxs : Rd w xso 1 [2]) (hx : Rd w xo 2 [3, -2]) (hs : Rd w so 2 [2, 3]) (ha : Rd w ao 6 [1, 2, 3, 4, 5, 6]) : Calls Tryz.prog 6 #[.int .i64 28, .agg #[.slice xso 1 xsc, .slice xo 2 xc], .agg #[.slice so 2 sc, .slice ao 6 ac]] w fun e w' => Ans w w.heap.size [3, 2] [2, 3, 5, 6, 0, 0] 0 e w' :=
  dyad_take xso xo so ao 1 xsc 2 xc 2 sc 6 ac [2] [3, -2] [2, 3] [1, 2, 3, 4, 5, 6] [3, 2] [2, 3, 5, 6, 0, 0] 0 w hxs hx hs ha (by decide) (by decide) (by omega) (fun V k => take_call xso xo so ao 1 xsc 2 xc 2 sc 6 ac [3, 2] [2, 3, 5, 6, 0, 0] 0 V (fun V2 k2 => by
    have kk := k.trans (k2.mono k.size)
    have := cut_take xso xo so ao 1 xsc 2 xc 2 sc 6 ac [3, -2] [2, 3] [1, 2, 3, 4, 5, 6] V2 (hx.below kk (Nat.le_refl _)) (hs.below kk (Nat.le_refl _)) (ha.below kk (Nat.le_refl _)) (by decide) (by omega) (by omega) (by decide) (fun _ => by
      rw [show pls (chL taA (axsOf [2, 3]) [3, -2]) = [1, 2, 4, 5, -1, -1] by decide]
      decide)
    rw [show lens (chL taA (axsOf [2, 3]) [3, -2]) = [3, 2] by decide, show mayF [3, 2] = 0 by decide, show filS [3, 2] = [3, 2] by decide, show gthS [1, 2, 3, 4, 5, 6] (chL taA (axsOf [2, 3]) [3, -2]) = [2, 3, 5, 6, 0, 0] by decide] at this
    exact this))
theorem c6_shape (w : World) (xo ao : Option Addr) (xc ac : Nat) (hx : Rd w xo 1 [2]) (ha : Rd w ao 1 [7]) : Calls Tryz.prog 6 #[.int .i64 23, .agg #[.slice none 0 0, .slice xo 1 xc], .agg #[.slice none 0 0, .slice ao 1 ac]] w fun e w' => Ans w w.heap.size [2] [7, 7] 0 e w' :=
  dyad_shape none xo none ao 0 0 1 xc 0 0 1 ac [] [2] [] [7] [2] [7, 7] 0 w (Rd.nil w) hx (Rd.nil w) ha (by decide) (by decide) (by omega) (fun V k => by
    have := reshape_any none xo none ao 0 0 1 xc 0 0 1 ac [2] [] [7] V (hx.below k (Nat.le_refl _)) (Rd.nil V) ⟨fun _ => ⟨rfl, rfl⟩, by omega, by omega⟩ (ha.below k (Nat.le_refl _)) (by decide) (by decide) (by omega) (by decide) (by omega) (by decide)
    rw [show ([2] ++ List.drop 1 [] : List Int) = [2] by decide, show rsL (pr [2]).toNat 1 [7] (pr [2]).toNat = [7, 7] by decide] at this
    exact this)
theorem c6_tail (w : World) (so ao to bo : Option Addr) (sc ac tc bc : Nat) (hs : Rd w so 2 [2, 3]) (ha : Rd w ao 6 [1, 2, 3, 4, 5, 6]) (ht : Rd w to 2 [2, 3]) (hb : Rd w bo 6 [1, 2, 3, 4, 5, 6]) : Calls Tryz.prog 6 #[.int .i64 30, .agg #[.slice so 2 sc, .slice ao 6 ac], .agg #[.slice to 2 tc, .slice bo 6 bc]] w fun e w' => e = .returned (.tuple #[.agg #[.slice none 0 0, .slice none 0 0], .int .i64 16]) ∧ Below w.heap.size w w' :=
  dyad_tail so ao to bo 2 sc 6 ac 2 tc 6 bc [2, 3] [1, 2, 3, 4, 5, 6] [2, 3] [1, 2, 3, 4, 5, 6] w hs ha ht hb (by decide) (by decide)
end Go.Proofs.YtjpdjnkmipfmbaaGreat


namespace Go.Proofs.YtjpdjnkmipfmbaaGreat

open Go.RowKit

set_option linter.unusedVariables false

theorem eqlit6 (V : World) (zs : List Int) (hl : zs.length ≤ 100) (hn : ∀ k, k < zs.length → -9223372036854775808 ≤ nth zs k ∧ nth zs k ≤ 9223372036854775807) (x : Option Addr) (y z : Nat) (h : Rd (V.alloc (.cells (zs.map (Value.int .i64)).toArray 2)) x y zs) :
    Calls Tryz.prog 17 #[.slice x y z, .slice (some ⟨V.heap.size, 0, none⟩) zs.length zs.length] (V.alloc (.cells (zs.map (Value.int .i64)).toArray 2)) fun e w' => e = .returned (.bool true) ∧ Below (V.alloc (.cells (zs.map (Value.int .i64)).toArray 2)).heap.size (V.alloc (.cells (zs.map (Value.int .i64)).toArray 2)) w' := by
  have f := ft_new 2 V zs hl hn
  refine (eqAtoms_any _ _ _ _ _ _ zs zs _ h f.rd).mono fun e w' ⟨x1, q, x2⟩ => ⟨by rw [x1, eqB_refl], x2 ▸ below_drewN (Below.refl _ _) _⟩
theorem eqlit6' (V : World) (zs : List Int) (hl : zs.length ≤ 100) (hn : ∀ k, k < zs.length → -9223372036854775808 ≤ nth zs k ∧ nth zs k ≤ 9223372036854775807) (x : Option Addr) (y z : Nat) (h : Rd (V.alloc (.cells (zs.map (Value.int .i64)).toArray 2)).drew x y zs) :
    Calls Tryz.prog 17 #[.slice x y z, .slice (some ⟨V.heap.size, 0, none⟩) zs.length zs.length] (V.alloc (.cells (zs.map (Value.int .i64)).toArray 2)).drew fun e w' => e = .returned (.bool true) ∧ Below (V.alloc (.cells (zs.map (Value.int .i64)).toArray 2)).drew.heap.size (V.alloc (.cells (zs.map (Value.int .i64)).toArray 2)).drew w' := by
  have f := (ft_new 2 V zs hl hn).below (Below.refl _ (V.alloc (.cells (zs.map (Value.int .i64)).toArray 2))).drew (Nat.le_refl _)
  refine (eqAtoms_any _ _ _ _ _ _ zs zs _ h f.rd).mono fun e w' ⟨x1, q, x2⟩ => ⟨by rw [x1, eqB_refl], x2 ▸ below_drewN (Below.refl _ _) _⟩

structure Bh (w V : World) (bA bB bC bD : Nat) (oA oB oC oS oD : Option Addr) (nA cA nB cB nC cC nS cS nD cD : Nat) : Prop where
  a : Hold V bA 1 oA nA cA [1, 4, 2, 5, 3, 6]
  b : Hold V bB 1 oB nB cB [1, 2, 3, 4, 5, 6, 9, 9, 9]
  c : Hold V bC 1 oC nC cC [2, 3, 5, 6, 0, 0]
  s : Hold V bD 0 oS nS cS [2]
  d : Hold V bD 1 oD nD cD [7, 7]
  bel : Below w.heap.size w V
theorem Bh.below {w V V' : World} {bA bB bC bD : Nat} {oA oB oC oS oD : Option Addr} {nA cA nB cB nC cC nS cS nD cD : Nat} (h : Bh w V bA bB bC bD oA oB oC oS oD nA cA nB cB nC cC nS cS nD cD) (k : Below V.heap.size V V') : Bh w V' bA bB bC bD oA oB oC oS oD nA cA nB cB nC cC nS cS nD cD :=
  ⟨h.a.below k, h.b.below k, h.c.below k, h.s.below k, h.d.below k, h.bel.trans (k.mono h.bel.size)⟩
theorem Bh.drew {w V : World} {bA bB bC bD : Nat} {oA oB oC oS oD : Option Addr} {nA cA nB cB nC cC nS cS nD cD : Nat} (h : Bh w V bA bB bC bD oA oB oC oS oD nA cA nB cB nC cC nS cS nD cD) : Bh w V.drew bA bB bC bD oA oB oC oS oD nA cA nB cB nC cC nS cS nD cD := h.below (Below.refl _ _).drew
theorem Bh.box {w V : World} {bA bB bC bD : Nat} {oA oB oC oS oD : Option Addr} {nA cA nB cB nC cC nS cS nD cD : Nat} (o : Obj) (h : Bh w V bA bB bC bD oA oB oC oS oD nA cA nB cB nC cC nS cS nD cD) : Bh w (V.alloc o) bA bB bC bD oA oB oC oS oD nA cA nB cB nC cC nS cS nD cD := h.below (box_below _ _)
theorem Bh.all {w V : World} {bA bB bC bD : Nat} {oA oB oC oS oD : Option Addr} {nA cA nB cB nC cC nS cS nD cD : Nat} (h : Bh w V bA bB bC bD oA oB oC oS oD nA cA nB cB nC cC nS cS nD cD) : V.cell? ⟨bA, 1, none⟩ = some (.slice oA nA cA) ∧ V.cell? ⟨bB, 1, none⟩ = some (.slice oB nB cB) ∧ V.cell? ⟨bC, 1, none⟩ = some (.slice oC nC cC) ∧ V.cell? ⟨bD, 0, none⟩ = some (.slice oS nS cS) ∧ V.cell? ⟨bD, 1, none⟩ = some (.slice oD nD cD) ∧ Bh w V bA bB bC bD oA oB oC oS oD nA cA nB cB nC cC nS cS nD cD := ⟨h.a.1, h.b.1, h.c.1, h.s.1, h.d.1, h⟩
theorem lst32 (V : World) : Calls Tryz.prog 7 #[.slice (some ⟨V.heap.size, 0, none⟩) 2 2] (V.alloc (.cells #[.int .i64 3, .int .i64 (-2)] 2)) fun e w' => ∃ o1 o2 c2, e = .returned (.agg #[.slice (some o1) 1 1, .slice o2 2 c2]) ∧ Rd w' (some o1) 1 [2] ∧ Rd w' o2 2 [3, -2] ∧ Below (V.alloc (.cells #[.int .i64 3, .int .i64 (-2)] 2)).heap.size (V.alloc (.cells #[.int .i64 3, .int .i64 (-2)] 2)) w' :=
  (list6_any _ 2 2 [3, -2] _ (ft_new 2 V [3, -2] (by simp) (by decide)).rd (ft_new 2 V [3, -2] (by simp) (by decide)).sl (by omega)).mono fun e w' ⟨o1, o2, c2, h1, h2, h3, h4⟩ => ⟨o1, o2, c2, h1, h2.rd, h3.rd, h4⟩
theorem lst77 (V : World) : Calls Tryz.prog 7 #[.slice (some ⟨V.heap.size, 0, none⟩) 2 2] (V.alloc (.cells #[.int .i64 7, .int .i64 7] 2)) fun e w' => ∃ o1 o2 c2, e = .returned (.agg #[.slice (some o1) 1 1, .slice o2 2 c2]) ∧ Rd w' (some o1) 1 [2] ∧ Rd w' o2 2 [7, 7] ∧ Below (V.alloc (.cells #[.int .i64 7, .int .i64 7] 2)).heap.size (V.alloc (.cells #[.int .i64 7, .int .i64 7] 2)) w' :=
  (list6_any _ 2 2 [7, 7] _ (ft_new 2 V [7, 7] (by simp) (by decide)).rd (ft_new 2 V [7, 7] (by simp) (by decide)).sl (by omega)).mono fun e w' ⟨o1, o2, c2, h1, h2, h3, h4⟩ => ⟨o1, o2, c2, h1, h2.rd, h3.rd, h4⟩
theorem lst77' (V : World) : Calls Tryz.prog 7 #[.slice (some ⟨V.heap.size, 0, none⟩) 2 2] (V.alloc (.cells #[.int .i64 7, .int .i64 7] 2)).drew fun e w' => ∃ o1 o2 c2, e = .returned (.agg #[.slice (some o1) 1 1, .slice o2 2 c2]) ∧ Rd w' (some o1) 1 [2] ∧ Rd w' o2 2 [7, 7] ∧ Below (V.alloc (.cells #[.int .i64 7, .int .i64 7] 2)).drew.heap.size (V.alloc (.cells #[.int .i64 7, .int .i64 7] 2)).drew w' :=
  (list6_any _ 2 2 [7, 7] _ ((ft_new 2 V [7, 7] (by simp) (by decide)).below (Below.refl _ _).drew (Nat.le_refl _)).rd (ft_new 2 V [7, 7] (by simp) (by decide)).sl (by omega)).mono fun e w' ⟨o1, o2, c2, h1, h2, h3, h4⟩ => ⟨o1, o2, c2, h1, h2.rd, h3.rd, h4⟩
theorem eq77 (V : World) (so ao to bo : Option Addr) (sn sc an ac tc bc : Nat) (h : Rd V so sn [2]) (g : Rd V ao an [7, 7]) (p : Rd V to 1 [2]) (q : Rd V bo 2 [7, 7]) :
    Calls Tryz.prog 14 #[.agg #[.slice so sn sc, .slice ao an ac], .agg #[.slice to 1 tc, .slice bo 2 bc]] V fun e w' => e = .returned (.bool true) ∧ Below V.heap.size V w' :=
  (eq4_any so ao to bo sn sc an ac 1 tc 2 bc [2] [7, 7] [2] [7, 7] V h g p q).mono fun e w' ⟨e1, e2⟩ => ⟨by rw [e1]; rfl, e2⟩

set_option maxHeartbeats 8000000 in
set_option maxRecDepth 20000 in
theorem begun6_any (w : World) : Calls Tryz.prog 5 #[] w fun e w' => e = .returned (.bool true) ∧ Below w.heap.size w w' := by
  go_enter Tryz.func5, Tryz.ntmps5
  go_wp2_with (first
    | (go_at_call 15; (with_reducible refine (table6_any w).mono ?_); rintro e W1 ⟨s1, a1, rfl, fs1, fa1, k1⟩)
    | (go_at_call 12; (with_reducible refine (c6_tran W1 _ _ _ _ fs1.rd fa1.rd).mono ?_); rintro e W2 ⟨o2, n2, c2, p2, m2, d2, rfl, f2, f2a, k2⟩; have hA0 := (hold_box (c1 := c2) (c2 := d2) f2.rd f2a.rd).2; have L2 : Below w.heap.size w (W2.alloc (.cells #[.slice o2 n2 c2, .slice p2 m2 d2] 25)) := (k1.trans (k2.mono k1.size)).trans ((box_below W2 _).mono (Nat.le_trans k1.size k2.size)))
    | (go_at_call 15; (with_reducible refine (table6_any (W2.alloc (.cells #[.slice o2 n2 c2, .slice p2 m2 d2] 25))).mono ?_); rintro e W3 ⟨s3, a3, rfl, fs3, fa3, k3⟩; have hA3 := hA0.below k3; have L3 := L2.trans (k3.mono L2.size))
    | (go_at_call 13; (with_reducible refine (scalar6_any 9 W3 (by omega) (by omega)).mono ?_); rintro e W4 ⟨a4, rfl, fa4, k4⟩; have hA4 := hA3.below k4; have L4 := L3.trans (k4.mono L3.size))
    | (go_at_call 6; (with_reducible refine (c6_ravel W4 _ _ _ _ _ _ (fs3.rd.below k4 (Nat.le_refl _)) fs3.sl (fa3.rd.below k4 (Nat.le_refl _)) fa4.rd).mono ?_); rintro e W5 ⟨o5, n5, c5, p5, m5, d5, rfl, f5, f5a, k5⟩; have hA5 := (hA4.below k5).below (box_below W5 (.cells #[.slice o5 n5 c5, .slice p5 m5 d5] 25)); have hB5 := (hold_box (c1 := c5) (c2 := d5) f5.rd f5a.rd).2; have L5 : Below w.heap.size w (W5.alloc (.cells #[.slice o5 n5 c5, .slice p5 m5 d5] 25)) := (L4.trans (k5.mono L4.size)).trans ((box_below W5 _).mono (Nat.le_trans L4.size k5.size)); have cl := lst32 (W5.alloc (.cells #[.slice o5 n5 c5, .slice p5 m5 d5] 25)); simp only [World.size_alloc] at cl; have hA5l := hA5.below (box_below (W5.alloc (.cells #[.slice o5 n5 c5, .slice p5 m5 d5] 25)) (.cells #[.int .i64 3, .int .i64 (-2)] 2)); have hB5l := hB5.below (box_below (W5.alloc (.cells #[.slice o5 n5 c5, .slice p5 m5 d5] 25)) (.cells #[.int .i64 3, .int .i64 (-2)] 2)); have L5l := L5.trans ((box_below (W5.alloc (.cells #[.slice o5 n5 c5, .slice p5 m5 d5] 25)) (.cells #[.int .i64 3, .int .i64 (-2)] 2)).mono L5.size))
    | (go_at_call 7; (with_reducible refine (cl).mono ?_); rintro e W6 ⟨s6, a6, c6, rfl, rs6, ra6, k6⟩; have k6x : Below ((W5.alloc (.cells #[.slice o5 n5 c5, .slice p5 m5 d5] 25)).alloc (.cells #[.int .i64 3, .int .i64 (-2)] 2)).heap.size ((W5.alloc (.cells #[.slice o5 n5 c5, .slice p5 m5 d5] 25)).alloc (.cells #[.int .i64 3, .int .i64 (-2)] 2)) W6 := (by simpa only [World.size_alloc] using k6); have hA6 := hA5l.below k6x; have hB6 := hB5l.below k6x; have L6 := L5l.trans (k6x.mono L5l.size); clear cl k6)
    | (go_at_call 15; (with_reducible refine (table6_any W6).mono ?_); rintro e W7 ⟨s7, a7, rfl, fs7, fa7, k7⟩; have hA7 := hA6.below k7; have hB7 := hB6.below k7; have L7 := L6.trans (k7.mono L6.size))
    | (go_at_call 6; (with_reducible refine (c6_take W7 _ _ _ _ _ _ _ _ (rs6.below k7 (Nat.le_refl _)) (ra6.below k7 (Nat.le_refl _)) fs7.rd fa7.rd).mono ?_); rintro e W8 ⟨o8, n8, c8, p8, m8, d8, rfl, f8, f8a, k8⟩; have hA8 := (hA7.below k8).below (box_below W8 (.cells #[.slice o8 n8 c8, .slice p8 m8 d8] 25)); have hB8 := (hB7.below k8).below (box_below W8 (.cells #[.slice o8 n8 c8, .slice p8 m8 d8] 25)); have hC8 := (hold_box (c1 := c8) (c2 := d8) f8.rd f8a.rd).2; have L8 : Below w.heap.size w (W8.alloc (.cells #[.slice o8 n8 c8, .slice p8 m8 d8] 25)) := (L7.trans (k8.mono L7.size)).trans ((box_below W8 _).mono (Nat.le_trans L7.size k8.size)))
    | (go_at_call 13; (with_reducible refine (scalar6_any 2 (W8.alloc (.cells #[.slice o8 n8 c8, .slice p8 m8 d8] 25)) (by omega) (by omega)).mono ?_); rintro e W9 ⟨a9, rfl, fa9, k9⟩; have hA9 := hA8.below k9; have hB9 := hB8.below k9; have hC9 := hC8.below k9; have L9 := L8.trans (k9.mono L8.size))
    | (go_at_call 13; (with_reducible refine (scalar6_any 7 W9 (by omega) (by omega)).mono ?_); rintro e W10 ⟨a10, rfl, fa10, k10⟩; have hA10 := hA9.below k10; have hB10 := hB9.below k10; have hC10 := hC9.below k10; have L10 := L9.trans (k10.mono L9.size))
    | (go_at_call 6; (with_reducible refine (c6_shape W10 _ _ _ _ (fa9.rd.below k10 (Nat.le_refl _)) fa10.rd).mono ?_); rintro e W11 ⟨oS, nS, cS, oD, nD, cD, rfl, f11, f11a, k11⟩; have kb := box_below W11 (.cells #[.slice oS nS cS, .slice oD nD cD] 25); have hA11 := (hA10.below k11).below kb; have hB11 := (hB10.below k11).below kb; have hC11 := (hC10.below k11).below kb; have hS11 := (hold_box (c1 := cS) (c2 := cD) f11.rd f11a.rd).1; have hD11 := (hold_box (c1 := cS) (c2 := cD) f11.rd f11a.rd).2; have L11 : Below w.heap.size w (W11.alloc (.cells #[.slice oS nS cS, .slice oD nD cD] 25)) := (L10.trans (k11.mono L10.size)).trans (kb.mono (Nat.le_trans L10.size k11.size)); have BH11 : Bh w (W11.alloc (.cells #[.slice oS nS cS, .slice oD nD cD] 25)) W2.heap.size W5.heap.size W8.heap.size W11.heap.size p2 p5 p8 oS oD m2 d2 m5 d5 m8 d8 nS cS nD cD := ⟨hA11, hB11, hC11, hS11, hD11, L11⟩)
    | (go_at_call 15; (with_reducible refine (table6_any (W11.alloc (.cells #[.slice oS nS cS, .slice oD nD cD] 25))).mono ?_); rintro e W12 ⟨s12, a12, rfl, fs12, fa12, k12⟩; have BH12 := BH11.below k12)
    | (go_at_call 15; (with_reducible refine (table6_any W12).mono ?_); rintro e W13 ⟨s13, a13, rfl, fs13, fa13, k13⟩; have BH13 := BH12.below k13)
    | (go_at_call 6; (with_reducible refine (c6_tail W13 _ _ _ _ _ _ _ _ (fs12.rd.below k13 (Nat.le_refl _)) (fa12.rd.below k13 (Nat.le_refl _)) fs13.rd fa13.rd).mono ?_); rintro e W14 ⟨rfl, k14⟩; have BH14 := (BH13.below k14).below (box_below W14 (.cells #[.slice none 0 0, .slice none 0 0] 25)))
    | (go_at_call 16; (with_reducible refine (has_28_2 (W14.alloc (.cells #[.slice none 0 0, .slice none 0 0] 25))).mono ?_); rintro e W15 ⟨rfl, k15⟩; have BH15 := BH14.below k15)
    | (go_at_call 16; (with_reducible refine (has_30_2 W15).mono ?_); rintro e W16 ⟨rfl, k16⟩; have BH16 := BH15.below k16))
  clear BH15 BH14 BH13 BH12 BH11 hA0 hA3 hA4 hA5 hA5l hA6 hA7 hA8 hA9 hA10 hA11 hB5 hB5l hB6 hB7 hB8 hB9 hB10 hB11 hC8 hC9 hC10 hC11 hS11 hD11 L2 L3 L4 L5 L5l L6 L7 L8 L9 L10 L11 k1 k2 k3 k4 k5 k6x k7 k8 k9 k10 k11 k12 k13 k14 k15 k16 kb fs1 fa1 fs3 fa3 fa4 f2 f2a f5 f5a f8 f8a f11 f11a rs6 ra6 fs7 fa7 fa9 fa10 fs12 fa12 fs13 fa13
  generalize W2.heap.size = bA at *
  generalize W5.heap.size = bB at *
  generalize W8.heap.size = bC at *
  generalize W11.heap.size = bD at *
  have eA := fun V x y z h => eqlit6 V [1, 4, 2, 5, 3, 6] (by simp) (by decide) x y z h
  have eA' := fun V x y z h => eqlit6' V [1, 4, 2, 5, 3, 6] (by simp) (by decide) x y z h
  have eB := fun V x y z h => eqlit6 V [1, 2, 3, 4, 5, 6, 9, 9, 9] (by simp) (by decide) x y z h
  have eB' := fun V x y z h => eqlit6' V [1, 2, 3, 4, 5, 6, 9, 9, 9] (by simp) (by decide) x y z h
  have eC := fun V x y z h => eqlit6 V [2, 3, 5, 6, 0, 0] (by simp) (by decide) x y z h
  have eC' := fun V x y z h => eqlit6' V [2, 3, 5, 6, 0, 0] (by simp) (by decide) x y z h
  simp only [List.length_cons, List.length_nil, Nat.zero_add, Nat.reduceAdd, List.map_cons, List.map_nil] at eA eA' eB eB' eC eC'
  go_region_held3 (fun V => V.cell? ⟨bA, 1, none⟩ = some (.slice p2 m2 d2) ∧ V.cell? ⟨bB, 1, none⟩ = some (.slice p5 m5 d5) ∧ V.cell? ⟨bC, 1, none⟩ = some (.slice p8 m8 d8) ∧ V.cell? ⟨bD, 0, none⟩ = some (.slice oS nS cS) ∧ V.cell? ⟨bD, 1, none⟩ = some (.slice oD nD cD) ∧ Bh w V bA bB bC bD p2 p5 p8 oS oD m2 d2 m5 d5 m8 d8 nS cS nD cD) (first | exact Bh.all (by assumption) | exact Bh.all (Bh.drew (by assumption)) | exact Bh.all (Bh.box _ (by assumption)) | exact Bh.all (Bh.drew (Bh.box _ (by assumption))))
    (first
      | (go_at_call 17; have HB := (‹_ ∧ _ ∧ _ ∧ _ ∧ _ ∧ Bh w _ _ _ _ _ _ _ _ _ _ _ _ _ _ _ _ _ _ _ _›).2.2.2.2.2; have HR := HB.a.2; (with_reducible refine (eA _ _ _ _ HR).mono ?_); rintro e v1 ⟨rfl, g1⟩; have G1 := HB.below g1)
      | (go_at_call 17; have HB := (‹_ ∧ _ ∧ _ ∧ _ ∧ _ ∧ Bh w _ _ _ _ _ _ _ _ _ _ _ _ _ _ _ _ _ _ _ _›).2.2.2.2.2; have HR := HB.a.2; (with_reducible refine (eA' _ _ _ _ HR).mono ?_); rintro e v1 ⟨rfl, g1⟩; have G1 := HB.below g1)
      | (go_at_call 17; have HB := (‹_ ∧ _ ∧ _ ∧ _ ∧ _ ∧ Bh w _ _ _ _ _ _ _ _ _ _ _ _ _ _ _ _ _ _ _ _›).2.2.2.2.2; have HR := HB.b.2; (with_reducible refine (eB _ _ _ _ HR).mono ?_); rintro e v1 ⟨rfl, g1⟩; have G1 := HB.below g1)
      | (go_at_call 17; have HB := (‹_ ∧ _ ∧ _ ∧ _ ∧ _ ∧ Bh w _ _ _ _ _ _ _ _ _ _ _ _ _ _ _ _ _ _ _ _›).2.2.2.2.2; have HR := HB.b.2; (with_reducible refine (eB' _ _ _ _ HR).mono ?_); rintro e v1 ⟨rfl, g1⟩; have G1 := HB.below g1)
      | (go_at_call 17; have HB := (‹_ ∧ _ ∧ _ ∧ _ ∧ _ ∧ Bh w _ _ _ _ _ _ _ _ _ _ _ _ _ _ _ _ _ _ _ _›).2.2.2.2.2; have HR := HB.c.2; (with_reducible refine (eC _ _ _ _ HR).mono ?_); rintro e v1 ⟨rfl, g1⟩; have G1 := HB.below g1)
      | (go_at_call 17; have HB := (‹_ ∧ _ ∧ _ ∧ _ ∧ _ ∧ Bh w _ _ _ _ _ _ _ _ _ _ _ _ _ _ _ _ _ _ _ _›).2.2.2.2.2; have HR := HB.c.2; (with_reducible refine (eC' _ _ _ _ HR).mono ?_); rintro e v1 ⟨rfl, g1⟩; have G1 := HB.below g1)
      | (go_at_call 7; have HB := (‹_ ∧ _ ∧ _ ∧ _ ∧ _ ∧ Bh w _ _ _ _ _ _ _ _ _ _ _ _ _ _ _ _ _ _ _ _›).2.2.2.2.2; (with_reducible refine (lst77 _).mono ?_); rintro e v2 ⟨u1, u2, u3, rfl, q1, q2, g2⟩; have G2 := HB.below g2)
      | (go_at_call 7; have HB := (‹_ ∧ _ ∧ _ ∧ _ ∧ _ ∧ Bh w _ _ _ _ _ _ _ _ _ _ _ _ _ _ _ _ _ _ _ _›).2.2.2.2.2; (with_reducible refine (lst77' _).mono ?_); rintro e v2 ⟨u1, u2, u3, rfl, q1, q2, g2⟩; have G2 := HB.below g2)
      | (go_at_call 14; have HB := (‹_ ∧ _ ∧ _ ∧ _ ∧ _ ∧ Bh w _ _ _ _ _ _ _ _ _ _ _ _ _ _ _ _ _ _ _ _›).2.2.2.2.2; have HR := HB.s.2; have HR2 := HB.d.2; (with_reducible refine (eq77 _ _ _ _ _ _ _ _ _ _ _ HR HR2 q1 q2).mono ?_); rintro e v3 ⟨rfl, g3⟩; have G3 := HB.below g3))
  all_goals (go_wp2; go_ret; exact ⟨rfl, Bh.bel (by first | assumption | exact (‹_ ∧ _ ∧ _ ∧ _ ∧ _ ∧ Bh w _ _ _ _ _ _ _ _ _ _ _ _ _ _ _ _ _ _ _ _›).2.2.2.2.2)⟩)
end Go.Proofs.YtjpdjnkmipfmbaaGreat
