
/- The document's Read. -/

import Derived.Test.YtppcfpiihkaopaaGreatDoorWH

namespace Go.Proofs.YtppcfpiihkaopaaGreatDoor

open Go.RowKit

set_option linter.unusedVariables false

set_option linter.unusedSimpArgs false in
set_option maxHeartbeats 8000000 in
set_option maxRecDepth 100000 in
theorem rread_any (l : List UInt8) (w : World) (hl : l.length ≤ 9223372036854775807) :
    Calls Tryz.prog 17 #[.string ⟨l.toArray⟩] w fun e w' => AnsV w w.heap.size (rdAll l) e w' := by
  have k0 := box_below w (.cells #[.slice none 0 0, .slice none 0 0] 36)
  have z0 := allocNew w (.cells #[.slice none 0 0, .slice none 0 0] 36)
  by_cases hb : 1048576 < l.length
  · have tb : (1048576 : Int) < (l.length : Int) := by omega
    have HV : Hid (rdAll l = ([], [], 0, 2)) := if_pos hb
    obtain ⟨y0, y1, y2, y3⟩ := box2 z0
    clear hl
    go_enter Tryz.func17, Tryz.ntmps17
    go_wp2
    refine bodyPost_ret (v := .tuple #[.agg #[.slice none 0 0, .slice none 0 0], .int .i64 (0), .int .i64 (2)]) (by simp [results, Tryz.results17]; go_simp) rfl ?_
    exact ansV_of (ansR_none rfl k0) HV.out
  · have tb : ¬ (1048576 : Int) < (l.length : Int) := by omega
    have tbn : ¬ 1048576 < l.length := hb
    have hW := words10_any l (w.alloc (.cells #[.slice none 0 0, .slice none 0 0] 36)) (by omega)
    obtain ⟨R, hR⟩ : ∃ R, scn l (l.length + 1) 0 (-1) [] [] = R := ⟨_, rfl⟩
    have HV : Hid (rdAll l = rdV l R) := by show _ = _; unfold rdAll; rw [if_neg hb, hR]
    rw [hR] at hW
    have hgd := scn_start l (l.length + 1)
    rw [hR] at hgd
    have hS : (w.alloc (.cells #[.slice none 0 0, .slice none 0 0] 36)).heap.size = w.heap.size + 1 := World.size_alloc _ _
    have HSZ : Hid ((w.alloc (.cells #[.slice none 0 0, .slice none 0 0] 36)).heap.size = w.heap.size + 1) := hS
    clear hR hb hS
    cases R with
    | inl pe =>
      obtain ⟨p, er⟩ := pe
      have her : er ≠ 0 := hgd.2.1
      have tE : (er != 0) = true := by simpa using her
      have HV2 : Hid (rdAll l = ([], [], (p : Int), er)) := HV.out
      clear hgd her
      go_enter Tryz.func17, Tryz.ntmps17
      go_wp2_with (go_at_call 34; (with_reducible refine hW.mono ?_); rintro e w1 ⟨xo, xn, xc, yo, yn, yc, rfl, fx, fy, b1, -⟩; have K1 := k0.trans (b1.mono k0.size); have z1 := (b1.block w.heap.size (by simp)).trans z0; obtain ⟨y0, y1, y2, y3⟩ := box2 z1; simp only [rsD, rsP, rsE])
      refine bodyPost_ret (v := .tuple #[.agg #[.slice none 0 0, .slice none 0 0], .int .i64 ((p : Nat)), .int .i64 (er)]) (by simp [results, Tryz.results17]; go_simp) rfl ?_
      exact ansV_of (ansR_none rfl (below_set2 _ _ _ _ K1 (Nat.le_refl _) (Nat.le_refl _))) HV2.out
    | inr dln =>
      obtain ⟨D, L, N⟩ := dln
      have hgd : D ≠ -1 → 0 ≤ D := fun h => by have := hgd.1.d0 h; omega
      have tE0 : ((0 : Int) != 0) = false := by decide
      by_cases hD : D = -1
      · subst hD
        have tD : decide ((-1 : Int) < 0) = true := by decide
        by_cases h4 : 4096 < N.length
        · have HV2 : Hid (rdAll l = ([], [], 0, 17)) := by show _ = _; rw [HV.out]; simp only [rdV]; rw [if_pos trivial, if_neg (by omega), if_neg (by omega)]
          go_enter Tryz.func17, Tryz.ntmps17
          go_wp2_with (go_at_call 34; (with_reducible refine hW.mono ?_); rintro e w1 ⟨xo, xn, xc, yo, yn, yc, rfl, fx, fy, b1, -⟩; have K1 := k0.trans (b1.mono k0.size); have z1 := (b1.block w.heap.size (by simp)).trans z0; obtain ⟨y0, y1, y2, y3⟩ := box2 z1; have hx : N.length = xn := fx.rd.len; have t4 : (4096 : Int) < (xn : Int) := (by omega); simp only [rsD, rsP, rsE])
          refine bodyPost_ret (v := .tuple #[.agg #[.slice none 0 0, .slice none 0 0], .int .i64 (0), .int .i64 (17)]) (by simp [results, Tryz.results17]; go_simp) rfl ?_
          exact ansV_of (ansR_none rfl (below_set2 _ _ _ _ K1 (Nat.le_refl _) (Nat.le_refl _))) HV2.out
        · by_cases h1 : N.length = 1
          · have HV2 : Hid (rdAll l = ([], N, 0, 0)) := by show _ = _; rw [HV.out]; simp only [rdV]; rw [if_pos trivial, if_pos h1]
            have H1 : Hid (N.length = 1) := h1
            clear h1 h4
            go_enter Tryz.func17, Tryz.ntmps17
            go_wp2_with (go_at_call 34; (with_reducible refine hW.mono ?_); rintro e w1 ⟨xo, xn, xc, yo, yn, yc, rfl, fx, fy, b1, -⟩
                         have K1 := k0.trans (b1.mono k0.size); have z1 := (b1.block w.heap.size (by simp)).trans z0
                         have hx : xn = 1 := (by rw [← H1.out]; exact fx.rd.len.symm)
                         subst hx
                         have kA := box_below w1 (.cells #[.slice none 0 0, .slice xo 1 xc] 36)
                         have zA := allocNew w1 (.cells #[.slice none 0 0, .slice xo 1 xc] 36)
                         have zr := (kA.block w.heap.size (Array.getElem?_eq_some_iff.1 z1).1).trans z1
                         obtain ⟨y0, y1, y2, y3⟩ := box2 zr; obtain ⟨a0, a1, a2, a3⟩ := box2 zA
                         have KA := K1.trans (kA.mono K1.size)
                         have FA := (show Ft 2 w1 _ xo 1 xc N from fx).below kA (Nat.le_refl _)
                         have HS1 : Hid ((w.alloc (.cells #[.slice none 0 0, .slice none 0 0] 36)).heap.size = w.heap.size + 1) := HSZ.out
                         have hne : w1.heap.size ≠ w.heap.size := (by have := (Array.getElem?_eq_some_iff.1 z1).1; omega)
                         simp only [rsD, rsP, rsE])
            refine bodyPost_ret (v := .tuple #[.agg #[.slice none 0 0, .slice xo 1 xc], .int .i64 (0), .int .i64 (0)]) (by simp [results, Tryz.results17]; go_simp) rfl ?_
            exact ansV_of (S := []) (A := N) (p := 0) (E := 0) ⟨none, 0, 0, xo, 1, xc, rfl, Ft.nil _ _ _, (ft_box2 FA zr (by decide) _ _).mono (by rw [HS1.out]; omega), below_set2 _ _ _ _ KA (Nat.le_refl _) (Nat.le_refl _)⟩ HV2.out
          · have HV2 : Hid (rdAll l = ([(N.length : Int)], N, 0, 0)) := by show _ = _; rw [HV.out]; simp only [rdV]; rw [if_pos trivial, if_neg h1, if_pos (by omega)]
            have H1 : Hid (N.length ≠ 1 ∧ N.length ≤ 4096) := ⟨h1, by omega⟩
            clear h1 h4
            go_enter Tryz.func17, Tryz.ntmps17
            go_upto_region 12 with
                        (go_at_call 34; (with_reducible refine hW.mono ?_); rintro e w1 ⟨xo, xn, xc, yo, yn, yc, rfl, fx, fy, b1, hpos⟩
                         have K1 := k0.trans (b1.mono k0.size); have z1 := (b1.block w.heap.size (by simp)).trans z0
                         have hx : N.length = xn := fx.rd.len
                         have hp := hpos rfl
                         have hx1 := H1.out
                         have t4 : ¬ (4096 : Int) < (xn : Int) := (by omega)
                         have t1 : (1 : Int) < (xn : Int) := (by omega)
                         have kA := box_below w1 (.cells #[.slice (some ⟨w1.heap.size + 1, 0, none⟩) 1 1, .slice xo xn xc] 36)
                         have zA := allocNew w1 (.cells #[.slice (some ⟨w1.heap.size + 1, 0, none⟩) 1 1, .slice xo xn xc] 36)
                         have zr := (kA.block w.heap.size (Array.getElem?_eq_some_iff.1 z1).1).trans z1
                         have KA := K1.trans (kA.mono K1.size)
                         have FA := (show Ft 2 w1 _ xo xn xc N from fx).below kA (Nat.le_refl _)
                         have hne : w.heap.size < w1.heap.size := (Array.getElem?_eq_some_iff.1 z1).1
                         have hszA : (w1.alloc (.cells #[.slice (some ⟨w1.heap.size + 1, 0, none⟩) 1 1, .slice xo xn xc] 36)).heap.size = w1.heap.size + 1 := World.size_alloc _ _
                         have hne2 : w1.heap.size ≠ w.heap.size := (by omega)
                         have hne3 : w1.heap.size + 1 ≠ w.heap.size := (by omega)
                         have kR := box_below (w1.alloc (.cells #[.slice (some ⟨w1.heap.size + 1, 0, none⟩) 1 1, .slice xo xn xc] 36)) (.cells #[.int .i64 (xn : Int)] 3)
                         have FR : Ft 3 ((w1.alloc (.cells #[.slice (some ⟨w1.heap.size + 1, 0, none⟩) 1 1, .slice xo xn xc] 36)).alloc (.cells #[.int .i64 (xn : Int)] 3)) (w1.alloc (.cells #[.slice (some ⟨w1.heap.size + 1, 0, none⟩) 1 1, .slice xo xn xc] 36)).heap.size (some ⟨(w1.alloc (.cells #[.slice (some ⟨w1.heap.size + 1, 0, none⟩) 1 1, .slice xo xn xc] 36)).heap.size, 0, none⟩) 1 1 [(xn : Int)] := ft_new 3 (w1.alloc (.cells #[.slice (some ⟨w1.heap.size + 1, 0, none⟩) 1 1, .slice xo xn xc] 36)) [(xn : Int)] (by simp) (fun q hq => (by
                           have : q = 0 := by simpa using hq
                           subst this; show -9223372036854775808 ≤ (xn : Int) ∧ (xn : Int) ≤ 9223372036854775807; omega))
                         have zA2 := (kR.block w1.heap.size (by rw [hszA]; omega)).trans zA
                         have zr2 := (kR.block w.heap.size (by rw [hszA]; omega)).trans zr
                         have KR := KA.trans (kR.mono KA.size)
                         have FA2 := FA.below kR (Nat.le_refl _)
                         rw [hszA] at FR
                         obtain ⟨a0, a1, a2, a3⟩ := box2 zA2
                         obtain ⟨y0, y1, y2, y3⟩ := box2 zr2
                         have HX : Hid (N.length = xn) := hx
                         have HS1 : Hid ((w.alloc (.cells #[.slice none 0 0, .slice none 0 0] 36)).heap.size = w.heap.size + 1) := HSZ.out
                         clear hx hx1 hszA kA kR FA
                         simp only [rsD, rsP, rsE])
            generalize (w1.alloc (.cells #[.slice (some ⟨w1.heap.size + 1, 0, none⟩) 1 1, .slice xo xn xc] 36)).alloc (.cells #[.int .i64 (xn : Int)] 3) = WF at *
            go_wp2
            refine bodyPost_ret (v := .tuple #[.agg #[.slice (some ⟨w1.heap.size + 1, 0, none⟩) 1 1, .slice xo xn xc], .int .i64 (0), .int .i64 (0)]) (by simp [results, Tryz.results17]; go_simp) rfl ?_
            refine ansV_of (S := [(xn : Int)]) (A := N) (p := 0) (E := 0) ⟨_, 1, 1, xo, xn, xc, rfl, (ft_box2 FR zr2 (by decide) _ _).mono (by omega), (ft_box2 FA2 zr2 (by decide) _ _).mono (by rw [HS1.out]; omega), below_set2 _ _ _ _ KR (Nat.le_refl _) (Nat.le_refl _)⟩ (by rw [HV2.out, HX.out])
      · have hD0 : 0 ≤ D := hgd hD
        have tD : decide (D < 0) = false := by simp; omega
        have HD : Hid (¬ D = -1) := hD
        have HD' : Hid (¬ D = -1 ∧ 0 ≤ D) := ⟨hD, hD0⟩
        have eX : rsX (.inr (D, L, N)) = L := if_neg hD
        have eY : rsY (.inr (D, L, N)) = N := if_neg hD
        have HXY : Hid (rsX (.inr (D, L, N)) = L ∧ rsY (.inr (D, L, N)) = N) := ⟨eX, eY⟩
        clear eX eY hD
        by_cases h0 : L.length = 0
        · have HV2 : Hid (rdAll l = ([], [], D, 37)) := by show _ = _; rw [HV.out]; simp only [rdV]; rw [if_neg HD.out, if_pos h0]
          have H0 : Hid (L.length = 0) := h0
          clear h0
          go_enter Tryz.func17, Tryz.ntmps17
          go_wp2_with (go_at_call 34; (with_reducible refine hW.mono ?_); rintro e w1 ⟨xo, xn, xc, yo, yn, yc, rfl, fx, fy, b1, -⟩; have K1 := k0.trans (b1.mono k0.size); have z1 := (b1.block w.heap.size (by simp)).trans z0; obtain ⟨y0, y1, y2, y3⟩ := box2 z1; rw [HXY.out.1] at fx; have hx : xn = 0 := (by rw [← H0.out]; exact fx.rd.len.symm); subst hx; simp only [rsD, rsP, rsE])
          refine bodyPost_ret (v := .tuple #[.agg #[.slice none 0 0, .slice none 0 0], .int .i64 (D), .int .i64 (37)]) (by simp [results, Tryz.results17]; go_simp) rfl ?_
          exact ansV_of (ansR_none rfl (below_set2 _ _ _ _ K1 (Nat.le_refl _) (Nat.le_refl _))) HV2.out
        · have HV1 : Hid (rdAll l = if mayF L ≠ 0 then ([], [], 0, 17) else if (N.length : Int) ≠ pr L then ([], [], (l.length : Int), 11) else if bareB L N then ([], [], D, 37) else (L, N, 0, 0)) := by show _ = _; rw [HV.out]; simp only [rdV]; rw [if_neg HD.out, if_neg h0]
          have H0 : Hid (L.length ≠ 0) := h0
          clear h0 HV
          go_enter Tryz.func17, Tryz.ntmps17
          go_wp2_with (go_at_call 34; (with_reducible refine hW.mono ?_); rintro e w1 ⟨xo, xn, xc, yo, yn, yc, rfl, fx, fy, b1, -⟩
                       have K1 := k0.trans (b1.mono k0.size); have z1 := (b1.block w.heap.size (by simp)).trans z0
                       rw [HXY.out.1] at fx; rw [HXY.out.2] at fy
                       have hx : L.length = xn := fx.rd.len
                       have hy : N.length = yn := fy.rd.len
                       have t0 : ((xn : Int) == 0) = false := (by have := H0.out; simp; omega)
                       have t0n : (xn == 0) = false := (by have := H0.out; simp; omega)
                       have HX : Hid (L.length = xn) := hx
                       have HY : Hid (N.length = yn) := hy
                       clear hx hy
                       simp only [rsD, rsP, rsE])
          have kB := box_below w1 (.cells #[.slice none 0 0, .slice yo yn yc] 36)
          have zB := allocNew w1 (.cells #[.slice none 0 0, .slice yo yn yc] 36)
          have zr := (kB.block w.heap.size (Array.getElem?_eq_some_iff.1 z1).1).trans z1
          have KB := K1.trans (kB.mono K1.size)
          have FX := fx.below kB (Nat.le_refl _)
          have FY := fy.below kB (Nat.le_refl _)
          have hne : w.heap.size < w1.heap.size := (Array.getElem?_eq_some_iff.1 z1).1
          have hs2 : (w1.alloc (.cells #[.slice none 0 0, .slice yo yn yc] 36)).heap.size = w1.heap.size + 1 := World.size_alloc _ _
          have HS1 : Hid ((w.alloc (.cells #[.slice none 0 0, .slice none 0 0] 36)).heap.size = w.heap.size + 1) := HSZ.out
          generalize w1.alloc (.cells #[.slice none 0 0, .slice yo yn yc] 36) = W2 at *
          obtain ⟨pa, hpa⟩ : ∃ pa, pa = w1.heap.size := ⟨_, rfl⟩
          rw [← hpa] at hne hs2 zB ⊢
          have HPA : Hid (w.heap.size < pa ∧ W2.heap.size = pa + 1) := ⟨hne, hs2⟩
          clear kB fx fy K1 z1 b1 hpa hne hs2 hW
          go_loopw [12] (fun i V => ∃ (k : Nat) (so : Option Addr) (sc : Nat), k ≤ xn ∧ i = .int .i64 (k : Nat) ∧ Below w.heap.size w V ∧ V.heap[w.heap.size]? = some (.cells #[.slice none 0 0, .slice none 0 0] 36 (0, 0)) ∧ V.heap[pa]? = some (.cells #[.slice so k sc, .slice yo yn yc] 36 (0, 0)) ∧ Ft 3 V pa so k sc (L.take k) ∧ Ft 2 V (w.heap.size + 1) xo xn xc L ∧ Ft 2 V (w.heap.size + 1) yo yn yc N ∧ pa < V.heap.size) (fun i _ => xn - (intOf i).toNat)
          case atStart => exact ⟨0, none, 0, Nat.zero_le _, rfl, KB, zr, zB, Ft.nil _ _ _, by rw [← HS1.out]; exact FX, by rw [← HS1.out]; exact FY, by have := HPA.out; omega⟩
          case round =>
            obtain ⟨k, so, sc, hk, rfl, KV, ZR, ZB, FL, FXV, FYV, hpl⟩ := hrel
            clear KB zr zB FX FY
            obtain ⟨c0, c1, c2, c3⟩ := box2 ZB
            by_cases hlt : k < xn
            · have hz := FXV.rd.num k hlt
              obtain ⟨b, off, rfl, hbb, hc⟩ := FXV.rd.cells (by omega)
              have cx := hc k hlt
              have hw : IntKind.i64.wrap (nth L k) = nth L k := by rw [IntKind.wrap_i64]; omega
              have D1 : Below wr.heap.size wr wr.drew := (Below.refl _ wr).drew
              have ka0 := box_below wr.drew (.cells #[.int .i64 (nth L k)] 3)
              have ka : Below wr.heap.size wr (wr.drew.alloc (.cells #[.int .i64 (nth L k)] 3)) := D1.trans ka0
              have FV : Ft 3 (wr.drew.alloc (.cells #[.int .i64 (nth L k)] 3)) wr.heap.size (some ⟨wr.heap.size, 0, none⟩) 1 1 [nth L k] := ft_new 3 wr.drew [nth L k] (by simp) (fun q hq => by
                have : q = 0 := by simpa using hq
                subst this; exact hz)
              have KA := KV.trans (ka.mono KV.size)
              have FA := FL.below ka (Nat.le_refl _)
              have FXA := FXV.below ka (Nat.le_refl _)
              have FYA := FYV.below ka (Nat.le_refl _)
              have ZRA := (ka.block w.heap.size (Array.getElem?_eq_some_iff.1 ZR).1).trans ZR
              have ZBA := (ka.block pa hpl).trans ZB
              have hpl2 := Nat.lt_of_lt_of_le hpl ka.size
              have HT : Hid (L.take (k + 1) = L.take k ++ [nth L k]) := by
                show _ = _
                rw [List.take_add_one, List.getElem?_eq_getElem (by rw [HX.out]; exact hlt)]
                unfold nth
                rw [List.getD_eq_getElem?_getD, List.getElem?_eq_getElem (by rw [HX.out]; exact hlt)]; rfl
              have hroom := FXV.rd.room
              have HS : Hid (∀ V, Below wr.heap.size wr V → V.cell? ⟨pa, 0, none⟩ = some (.slice so k sc) ∧ V.cell? ⟨b, off + k, none⟩ = some (.int .i64 (nth L k))) := fun V j => ⟨(j.cell (p := ⟨pa, _, none⟩) hpl).trans c0, (j.cell (p := ⟨b, _, none⟩) hbb).trans cx⟩
              clear hc ka0
              go_upto_region 19 with fail
              refine wp_region_R (fun V => V.cell? ⟨pa, 0, none⟩ = some (.slice so k sc) ∧ V.cell? ⟨b, off + k, none⟩ = some (.int .i64 (nth L k))) (fun j => j != 9) (by kernel_rfl) ?_
              refine wpAnyR_take (i := 0) (v := .pointer (some ⟨pa, 0, none⟩)) rfl (by kernel_rfl) (by kernel_rfl) (by kernel_rfl) (by kernel_rfl) (fun _ _ _ h => h) (Or.inl ⟨by rfl, fun V hV => ?_⟩) ?_ ?_
              · obtain ⟨g1, g2⟩ := hV
                go_simp
              · exact HS.out _ D1
              conv => arg 9; simp [Act.put]
              refine wpAnyR_take (i := 1) (v := .slice so k sc) rfl (by kernel_rfl) (by kernel_rfl) (by kernel_rfl) (by kernel_rfl) (fun _ _ _ h => h) (Or.inl ⟨by rfl, fun V hV => ?_⟩) ?_ ?_
              · obtain ⟨g1, g2⟩ := hV
                go_simp
              · exact HS.out _ D1
              conv => arg 9; simp [Act.put]
              refine wpAnyR_take (i := 2) (v := .slice (some ⟨b, off, none⟩) xn xc) rfl (by kernel_rfl) (by kernel_rfl) (by kernel_rfl) (by kernel_rfl) (fun _ _ _ h => h) (Or.inl ⟨by rfl, fun V hV => ?_⟩) ?_ ?_
              · obtain ⟨g1, g2⟩ := hV
                go_simp
              · exact HS.out _ D1
              conv => arg 9; simp [Act.put]
              refine wpAnyR_take (i := 3) (v := .int .i64 (k : Nat)) rfl (by kernel_rfl) (by kernel_rfl) (by kernel_rfl) (by kernel_rfl) (fun _ _ _ h => h) (Or.inl ⟨by rfl, fun V hV => ?_⟩) ?_ ?_
              · obtain ⟨g1, g2⟩ := hV
                go_simp
              · exact HS.out _ D1
              conv => arg 9; simp [Act.put]
              refine wpAnyR_take (i := 4) (v := .pointer (some ⟨b, off + k, none⟩)) rfl (by kernel_rfl) (by kernel_rfl) (by kernel_rfl) (by kernel_rfl) (fun _ _ _ h => h) (Or.inl ⟨by rfl, fun V hV => ?_⟩) ?_ ?_
              · obtain ⟨g1, g2⟩ := hV
                go_simp
              · exact HS.out _ D1
              conv => arg 9; simp [Act.put]
              refine wpAnyR_take (i := 5) (v := .int .i64 (nth L k)) rfl (by kernel_rfl) (by kernel_rfl) (by kernel_rfl) (by kernel_rfl) (fun _ _ _ h => h) (Or.inl ⟨by rfl, fun V hV => ?_⟩) ?_ ?_
              · obtain ⟨g1, g2⟩ := hV
                go_simp
              · exact HS.out _ D1
              conv => arg 9; simp [Act.put]
              refine wpAnyR_one (i := 6) (by kernel_rfl) rfl (fun K hK => ?_)
              go_simp
              refine hK _ _ ⟨fun _ => HS.out _ ka, ?_⟩
              clear hK
              (try (conv => arg 9; simp [Act.put]))
              refine wpAnyR_one (i := 7) (by kernel_rfl) rfl (fun K hK => ?_)
              refine step_joinW tyI rfl _ _ rfl pa (k + 1) _ _ _ _ _ _ _ [nth L k] rfl rfl rfl FA FV.rd FV.sl (by omega) (Nat.le_of_lt hpl2) ?_
              intro co cc w2 F2 g2 _
              have ZB2 := FA.other g2 ZBA (by decide)
              have hB' : w.heap.size + 1 ≤ pa := HPA.out.1
              have FX2 := (FA.mono hB').beside g2 FXA (by decide)
              have FY2 := (FA.mono hB').beside g2 FYA (by decide)
              have ZR2 := FA.other g2 ZRA (by decide)
              have K2 := KA.trans ((FA.growsBelow g2 (Nat.le_of_lt hpl2)).mono (by omega))
              obtain ⟨u0, u1, u2, u3⟩ := box2 ZB2
              have hS2 : w2.cell? ⟨pa, 0, none⟩ = some (.slice so k sc) ∧ w2.cell? ⟨b, off + k, none⟩ = some (.int .i64 (nth L k)) := by
                obtain ⟨b', off', e', _, hc'⟩ := FX2.rd.cells (by omega)
                injection e' with e'
                injection e' with e1 e2
                subst e1 e2
                exact ⟨u0, hc' k hlt⟩
              have HS2 : Hid (w2.cell? ⟨pa, 0, none⟩ = some (.slice so k sc) ∧ w2.cell? ⟨b, off + k, none⟩ = some (.int .i64 (nth L k))) := hS2
              clear hS2
              refine hK _ _ ⟨fun _ => HS2.out, ?_⟩
              clear hK
              (try (conv => arg 9; simp [Act.put]))
              refine wpAnyR_one (i := 8) (by kernel_rfl) rfl (fun K hK => ?_)
              go_simp
              refine hK _ _ ⟨fun _ => HS2.out, ?_⟩
              clear hK
              (try (conv => arg 9; simp [Act.put]))
              refine wpAnyR_one (i := 9) (by kernel_rfl) rfl (fun K hK => ?_)
              go_simp
              refine hK _ _ ⟨fun h => absurd h (by decide), ?_⟩
              clear hK
              (try (conv => arg 9; simp [Act.put]))
              refine wpAnyR_done (by kernel_rfl) ?_ _
              go_wp2
              go_roundw
              case rel =>
                refine ⟨k + 1, co, cc, by omega, by go_num, K2.setCell (p := ⟨pa, 0, none⟩) (by show w.heap.size ≤ pa; omega) _, (heap_setCell_other w2 ⟨pa, 0, none⟩ w.heap.size _ (by show w.heap.size ≠ pa; omega)).trans ZR2, (heap_setCell_same w2 pa 0 _ _ _ ZB2).trans rfl, ?_, FX2.kind (set1 w2 pa 0 _) ZB2 (by decide), FY2.kind (set1 w2 pa 0 _) ZB2 (by decide), ?_⟩
                · rw [HT.out]; exact F2.kind (set1 w2 pa 0 _) ZB2 (by decide)
                · exact Nat.lt_of_lt_of_le (Array.getElem?_eq_some_iff.1 ZB2).1 (set1 w2 pa 0 _).size
              case measure => simp [intOf]; omega
            · obtain rfl : k = xn := by omega
              rw [List.take_of_length_le (by rw [HX.out]; exact Nat.le_refl _)] at FL
              have cZ := refSize_any so k sc L wr FL.rd
              have bd := sizeF_bd L
              obtain ⟨y0, y1, y2, y3⟩ := box2 ZR
              have tk : ¬ (k : Int) < (k : Int) := by omega
              by_cases hm : mayF L = 0
              · rw [hm, sizeF_ok hm] at cZ
                rw [sizeF_ok hm] at bd
                have HM : Hid (mayF L = 0) := hm
                obtain ⟨P, hP⟩ : ∃ P, P = pr L := ⟨_, rfl⟩
                rw [← hP] at cZ bd
                have HP : Hid (P = pr L) := hP
                clear hm hP
                by_cases hn : (yn : Int) = P
                · have tn : (P != (yn : Int)) = false := by simp; omega
                  by_cases hk1 : k = 1
                  · have t1 : ((k : Int) == 1) = true := by simp; omega
                    have t1n : (k == 1) = true := by simp; omega
                    by_cases hy1 : 1 < P
                    · have ty : decide ((1 : Int) < P) = true := by simpa using hy1
                      have HV2 : Hid (rdAll l = ([], [], D, 37)) := by show _ = _; rw [HV1.out, if_neg (fun h => h HM.out), if_neg (fun h => h (by rw [HY.out, hn, HP.out])), if_pos (.inr ⟨by rw [HX.out]; exact hk1, by rw [HY.out]; omega⟩)]
                      clear hn hk1
                      go_wp2_with (go_at_call 35; (with_reducible refine cZ.mono ?_); rintro e w3 ⟨rfl, hw3⟩; have hw4 := hw3.symm; subst hw4; clear hw3)
                      refine bodyPost_ret (v := .tuple #[.agg #[.slice none 0 0, .slice none 0 0], .int .i64 (D), .int .i64 (37)]) (by simp [results, Tryz.results17]; go_simp) rfl ?_
                      exact ansV_of (ansR_none rfl (below_set2 _ _ _ _ KV (Nat.le_refl _) (Nat.le_refl _))) HV2.out
                    · have ty : decide ((1 : Int) < P) = false := by simp; omega
                      have HV2 : Hid (rdAll l = (L, N, 0, 0)) := by show _ = _; rw [HV1.out, if_neg (fun h => h HM.out), if_neg (fun h => h (by rw [HY.out, hn, HP.out])), if_neg (fun h => h.elim (fun h => H0.out h) (fun h => by have := h.2; rw [HY.out] at this; omega))]
                      clear hn hk1
                      go_wp2_with (go_at_call 35; (with_reducible refine cZ.mono ?_); rintro e w3 ⟨rfl, hw3⟩; have hw4 := hw3.symm; subst hw4; clear hw3)
                      refine bodyPost_ret (v := .tuple #[.agg #[.slice so k sc, .slice yo yn yc], .int .i64 (0), .int .i64 (0)]) (by simp [results, Tryz.results17]; go_simp) rfl ?_
                      exact ansV_of (S := L) (A := N) (p := 0) (E := 0) ⟨so, k, sc, yo, yn, yc, rfl, (ft_box2 FL ZR (by decide) _ _).mono (Nat.le_of_lt HPA.out.1), (ft_box2 FYV ZR (by decide) _ _).mono (by omega), below_set2 _ _ _ _ KV (Nat.le_refl _) (Nat.le_refl _)⟩ HV2.out
                  · have t1 : ((k : Int) == 1) = false := by simp; omega
                    have t1n : (k == 1) = false := by simp; omega
                    have HV2 : Hid (rdAll l = (L, N, 0, 0)) := by show _ = _; rw [HV1.out, if_neg (fun h => h HM.out), if_neg (fun h => h (by rw [HY.out, hn, HP.out])), if_neg (fun h => h.elim (fun h => H0.out h) (fun h => by have := h.1; rw [HX.out] at this; omega))]
                    clear hn hk1
                    go_wp2_with (go_at_call 35; (with_reducible refine cZ.mono ?_); rintro e w3 ⟨rfl, hw3⟩; have hw4 := hw3.symm; subst hw4; clear hw3)
                    refine bodyPost_ret (v := .tuple #[.agg #[.slice so k sc, .slice yo yn yc], .int .i64 (0), .int .i64 (0)]) (by simp [results, Tryz.results17]; go_simp) rfl ?_
                    exact ansV_of (S := L) (A := N) (p := 0) (E := 0) ⟨so, k, sc, yo, yn, yc, rfl, (ft_box2 FL ZR (by decide) _ _).mono (Nat.le_of_lt HPA.out.1), (ft_box2 FYV ZR (by decide) _ _).mono (by omega), below_set2 _ _ _ _ KV (Nat.le_refl _) (Nat.le_refl _)⟩ HV2.out
                · have tn : (P != (yn : Int)) = true := by simp; omega
                  have HV2 : Hid (rdAll l = ([], [], (l.length : Int), 11)) := by show _ = _; rw [HV1.out, if_neg (fun h => h HM.out), if_pos (by rw [HY.out, ← HP.out]; exact hn)]
                  clear hn
                  go_wp2_with (go_at_call 35; (with_reducible refine cZ.mono ?_); rintro e w3 ⟨rfl, hw3⟩; have hw4 := hw3.symm; subst hw4; clear hw3)
                  refine bodyPost_ret (v := .tuple #[.agg #[.slice none 0 0, .slice none 0 0], .int .i64 (l.length), .int .i64 (11)]) (by simp [results, Tryz.results17]; go_simp) rfl ?_
                  exact ansV_of (ansR_none rfl (below_set2 _ _ _ _ KV (Nat.le_refl _) (Nat.le_refl _))) HV2.out
              · have tm : (mayF L != 0) = true := by simpa using hm
                have HV2 : Hid (rdAll l = ([], [], 0, 17)) := by show _ = _; rw [HV1.out, if_pos hm]
                clear hm
                generalize mayF L = E0 at cZ tm
                generalize sizeF L = P at cZ bd
                go_wp2_with (go_at_call 35; (with_reducible refine cZ.mono ?_); rintro e w3 ⟨rfl, hw3⟩; have hw4 := hw3.symm; subst hw4; clear hw3)
                refine bodyPost_ret (v := .tuple #[.agg #[.slice none 0 0, .slice none 0 0], .int .i64 (0), .int .i64 (17)]) (by simp [results, Tryz.results17]; go_simp) rfl ?_
                exact ansV_of (ansR_none rfl (below_set2 _ _ _ _ KV (Nat.le_refl _) (Nat.le_refl _))) HV2.out
end Go.Proofs.YtppcfpiihkaopaaGreatDoor
