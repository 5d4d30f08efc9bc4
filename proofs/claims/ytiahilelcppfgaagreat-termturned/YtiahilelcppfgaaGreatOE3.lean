
/- TermTurned, way 3. -/

import Derived.Test.YtiahilelcppfgaaGreatOD

namespace Go.Proofs.YtiahilelcppfgaaGreat

open Go.RowKit

set_option linter.unusedVariables false

set_option linter.unusedSimpArgs false in
set_option maxRecDepth 100000 in
set_option maxHeartbeats 8000000 in
theorem turned3 (d : Nat) (x : Tr (d + 1)) (k n : Int) (t : ByteArray) (so ao ko : Option Addr) (sn sc an ac L kc : Nat) (hw nn : Int) (w : World) (h : Tv w (d + 1) x [.int .i64 k, .string t, .int .i64 n, .slice so sn sc, .slice ao an ac, .slice ko L kc]) (ek : x.nd.k = k) (et : x.nd.t = t) (en : x.nd.n = n) (esn : x.nd.sh.length = sn) (ean : x.nd.at'.length = an) (hL : x.ks.length = L)
    (hm : mayT (d + 1) x (clsN k) = 0) (hn : -9223372036854775808 ≤ nn ∧ nn ≤ 9223372036854775807) (hq : Int.tmod hw 6 = 3) :
    Calls Tryz.prog 6 #[.agg #[.int .i64 k, .string t, .int .i64 n, .slice so sn sc, .slice ao an ac, .slice ko L kc], .int .u8 hw, .int .i64 nn] w fun e w' => e = .returned (.bool true) ∧ Below w.heap.size w w' := by
  obtain ⟨hC, hsz, htx, hnu, har, hki⟩ := may_facts hm
  have hq0 : (Int.tmod hw 6 == 0) = false := by rw [hq]; rfl
  have hq1 : (Int.tmod hw 6 == 1) = false := by rw [hq]; rfl
  have hq2 : (Int.tmod hw 6 == 2) = false := by rw [hq]; rfl
  have hq3 : (Int.tmod hw 6 == 3) = true := by rw [hq]; rfl
  clear hq
  have hC0 : (clsN k == 0) = false := by simp; omega
  have k0 := box_below w (.cells #[.int .i64 k, .string t, .int .i64 n, .slice so sn sc, .slice ao an ac, .slice ko L kc] 31)
  have r0 := allocNew w (.cells #[.int .i64 k, .string t, .int .i64 n, .slice so sn sc, .slice ao an ac, .slice ko L kc] 31)
  have hbg := begun13_any (w.alloc (.cells #[.int .i64 k, .string t, .int .i64 n, .slice so sn sc, .slice ao an ac, .slice ko L kc] 31))
  have hcl := fun W => class_any k n t (.slice so sn sc) (.slice ao an ac) (.slice ko L kc) W
  have hmy := fun V (b : Below w.heap.size w V) => tmay_any (d + 1) x _ _ _ _ _ _ (clsN k) V (Tv.below b (Nat.le_refl _) _ _ _ h)
  rw [hm] at hmy
  have hcp := fun V (b : Below w.heap.size w V) => copy_ok (d + 1) x _ _ _ _ _ _ V (Tv.below b (Nat.le_refl _) _ _ _ h) hsz
  have hs1 : ∀ V b0 b1 b2 b3 b4 b5, Below w.heap.size w V → Tv V (d + 1) x [b0, b1, b2, b3, b4, b5] → Calls Tryz.prog 15 #[.agg #[.int .i64 k, .string t, .int .i64 n, .slice so sn sc, .slice ao an ac, .slice ko L kc], .agg #[b0, b1, b2, b3, b4, b5]] V fun e w' => e = .returned (.bool true) ∧ Below V.heap.size V w' := fun V b0 b1 b2 b3 b4 b5 b hv => by
    have := tsame_any (d + 1) x (d + 1) x _ _ _ _ _ _ _ _ _ _ _ _ V (Tv.below b (Nat.le_refl _) _ _ _ h) hv
    rw [hsz, alk_refl] at this
    exact this
  have hs2 : ∀ V b0 b1 b2 b3 b4 b5, Below w.heap.size w V → Tv V (d + 1) x [b0, b1, b2, b3, b4, b5] → Calls Tryz.prog 15 #[.agg #[b0, b1, b2, b3, b4, b5], .agg #[.int .i64 k, .string t, .int .i64 n, .slice so sn sc, .slice ao an ac, .slice ko L kc]] V fun e w' => e = .returned (.bool true) ∧ Below V.heap.size V w' := fun V b0 b1 b2 b3 b4 b5 b hv => by
    have := tsame_any (d + 1) x (d + 1) x _ _ _ _ _ _ _ _ _ _ _ _ V hv (Tv.below b (Nat.le_refl _) _ _ _ h)
    rw [hsz, alk_refl] at this
    exact this
  have how := fun V (b : Below w.heap.size w V) => own_any d x _ _ _ _ _ _ V (Tv.below b (Nat.le_refl _) _ _ _ h)
  obtain ⟨CK, hCK⟩ : ∃ CK, CK = clsN k := ⟨_, rfl⟩
  have HC : Hid (CK = 1 ∨ CK = 2 ∨ CK = 3) := by rw [hCK]; exact hC
  rw [← hCK] at hC0 hcl hmy
  have HF : Hid (txB x.nd.k x.nd.t = true ∧ numB x.nd.k x.nd.n = true ∧ arrB x.nd.k x.nd.sh x.nd.at' = true ∧ kidB x.nd.k x.ks.length (kin d x.ks) = true) := ⟨htx, hnu, har, hki⟩
  have HX : Hid (x.nd.k = k ∧ x.nd.t = t ∧ x.nd.n = n ∧ x.nd.sh.length = sn ∧ x.nd.at'.length = an ∧ x.ks.length = L) := ⟨ek, et, en, esn, ean, hL⟩
  have HT : Hid (Tv w (d + 1) x [.int .i64 k, .string t, .int .i64 n, .slice so sn sc, .slice ao an ac, .slice ko L kc]) := h
  have HS : Hid (x.ks.length ≤ 4096) := kid_count hsz
  have HN : Hid (-9223372036854775808 ≤ nn ∧ nn ≤ 9223372036854775807) := hn
  clear hC hsz htx hnu har hki hm ek et en esn ean hL hCK h hn
  go_enter Tryz.func6, Tryz.ntmps6
  go_upto_region 6 with (first
    | (go_at_call 9; (with_reducible refine hbg.mono ?_); rintro e w1 ⟨rfl, b1⟩; have B1 := k0.trans (b1.mono k0.size); have R1 := (b1.block w.heap.size (by simp)).trans r0; obtain ⟨q0, q1, q2, q3, q4, q5⟩ := box6 R1)
    | (go_at_call 11; (with_reducible refine (hcl _).mono ?_); rintro e w2 ⟨rfl, b2⟩; have B2 := B1.trans (b2.mono B1.size); have R2 := (b2.block w.heap.size (Array.getElem?_eq_some_iff.1 R1).1).trans R1; obtain ⟨p0, p1, p2, p3, p4, p5⟩ := box6 R2)
    | (go_at_call 12; (with_reducible refine (hmy _ B2).mono ?_); rintro e w3 ⟨rfl, b3⟩; have B3 := B2.trans (b3.mono B2.size); have R3 := (b3.block w.heap.size (Array.getElem?_eq_some_iff.1 R2).1).trans R2; obtain ⟨m0, m1, m2, m3, m4, m5⟩ := box6 R3))
  clear q0 q1 q2 q3 q4 q5 p0 p1 p2 p3 p4 p5 b1 b2 b3 B1 B2 R1 R2 hbg hcl hmy k0 r0 hC0
  go_upto_region 7 with
    (go_at_call 14; (with_reducible refine (hcp _ B3).mono ?_); rintro e w4 ⟨v0, v1, v2, v3, v4, v5, rfl, tw, b4⟩
     obtain ⟨k3, t3, n3, xo3, xn3, xc3, zo3, zn3, zc3, uo3, un3, uc3, ev⟩ := tw.tv.form
     injection ev with ev0 ev
     injection ev with ev1 ev
     injection ev with ev2 ev
     injection ev with ev3 ev
     injection ev with ev4 ev
     injection ev with ev5 ev
     subst ev0 ev1 ev2 ev3 ev4 ev5
     have B4 := B3.trans (b4.mono B3.size)
     have R4 := (b4.block w.heap.size (Array.getElem?_eq_some_iff.1 R3).1).trans R3
     have kz := box_below w4 (.cells #[.int .i64 k3, .string t3, .int .i64 n3, .slice xo3 xn3 xc3, .slice zo3 zn3 zc3, .slice uo3 un3 uc3] 31)
     have RU := allocNew w4 (.cells #[.int .i64 k3, .string t3, .int .i64 n3, .slice xo3 xn3 xc3, .slice zo3 zn3 zc3, .slice uo3 un3 uc3] 31))
  have lt4 := (Array.getElem?_eq_some_iff.1 R4).1
  have B5 := B4.trans (kz.mono B4.size)
  have R5 := (kz.block w.heap.size lt4).trans R4
  have TU5 := (tw.up (⟨kz.size, fun q h1 h2 => kz.block q h2⟩ : Up w3.heap.size w4 _)).tv
  have U5 := (Array.getElem?_eq_some_iff.1 RU).1
  obtain ⟨bu, hbu⟩ : ∃ bu, bu = w4.heap.size := ⟨_, rfl⟩
  rw [← hbu] at RU
  have hbw : w.heap.size < bu := by omega
  clear kz tw b4 B3 B4 R3 R4 lt4 m0 m1 m2 m3 m4 m5 hcp
  rw [← hbu]
  generalize w4.alloc (.cells #[.int .i64 k3, .string t3, .int .i64 n3, .slice xo3 xn3 xc3, .slice zo3 zn3 zc3, .slice uo3 un3 uc3] 31) = w5 at *
  clear hbu
  obtain ⟨q0, q1, q2, q3, q4, q5⟩ := box6 R5
  obtain ⟨cc0, cc1, cc2, cc3, cc4, cc5⟩ := box6 RU
  go_upto_region 10 with (first
    | (go_at_call 15; (with_reducible refine (hs1 _ _ _ _ _ _ _ B5 TU5).mono ?_); rintro e w6 ⟨rfl, b6⟩; have B6 := B5.trans (b6.mono B5.size); have R6 := (b6.block w.heap.size (Array.getElem?_eq_some_iff.1 R5).1).trans R5; have RU6 := (b6.block bu (Array.getElem?_eq_some_iff.1 RU).1).trans RU; have TU6 := Tv.below b6 (Nat.le_refl _) _ _ _ TU5; obtain ⟨i0, i1, i2, i3, i4, i5⟩ := box6 R6; obtain ⟨j0, j1, j2, j3, j4, j5⟩ := box6 RU6)
    | (go_at_call 15; (with_reducible refine (hs2 _ _ _ _ _ _ _ B6 TU6).mono ?_); rintro e w7 ⟨rfl, b7⟩; have B7 := B6.trans (b7.mono B6.size); have R7 := (b7.block w.heap.size (Array.getElem?_eq_some_iff.1 R6).1).trans R6; have RU7 := (b7.block bu (Array.getElem?_eq_some_iff.1 RU6).1).trans RU6; obtain ⟨l0, l1, l2, l3, l4, l5⟩ := box6 R7)
    | (go_at_call 16; (with_reducible refine (how _ B7).mono ?_); rintro e w8 ⟨v0, v1, v2, v3, v4, v5, rfl, ow, b8⟩
       have ow' := ow
       obtain ⟨p1, pc1, p2, pc2, p3, pc3, M, vals, ev, _⟩ := ow'
       injection ev with ev0 ev
       injection ev with ev1 ev
       injection ev with ev2 ev
       injection ev with ev3 ev
       injection ev with ev4 ev
       injection ev with ev5 ev
       subst ev0 ev1 ev2 ev3 ev4 ev5
       rw [HX.out.1, HX.out.2.1, HX.out.2.2.1, HX.out.2.2.2.1, HX.out.2.2.2.2.1, HX.out.2.2.2.2.2] at ow
       rw [HX.out.1, HX.out.2.1, HX.out.2.2.1, HX.out.2.2.2.1, HX.out.2.2.2.2.1, HX.out.2.2.2.2.2]
       have B8 := B7.trans (b8.mono B7.size)
       have R8 := (b8.block w.heap.size (Array.getElem?_eq_some_iff.1 R7).1).trans R7
       have RU8 := (b8.block bu (Array.getElem?_eq_some_iff.1 RU7).1).trans RU7
       obtain ⟨⟨⟨a0, a1⟩, a2, ⟨a3, a4⟩, a5, ⟨a6, a7⟩, a8, ⟨a9, a10⟩, a11, ⟨a12, a13⟩, a14, ⟨a15, a16⟩, a17⟩, ⟨f0, f1, f2, f3, f4, f5⟩, gr⟩ := box6_store w8 bu _ _ _ _ _ _ (.int .i64 k) (.string t) (.int .i64 n) (.slice p1 sn pc1) (.slice p2 an pc2) (.slice p3 L pc3) _ RU8
       have RU9 := box6_row w8 bu _ _ _ _ _ _ (.int .i64 k) (.string t) (.int .i64 n) (.slice p1 sn pc1) (.slice p2 an pc2) (.slice p3 L pc3) _ RU8
       have HG : Hid (_) := gr
       clear gr))
  have gr := HG.out
  have lb7 := (Array.getElem?_eq_some_iff.1 RU7).1
  have B9 := B8.grown gr B8.size (fun q e => by injection e with e; omega)
  have R9 := (gr.block w.heap.size (Array.getElem?_eq_some_iff.1 R8).1 (fun e => by injection e with e; omega)).trans R8
  have OW := ow.keep (⟨gr.size, fun b hb hl => gr.block b hl (fun e => by injection e with e; omega)⟩ : Kb (fun b => w7.heap.size ≤ b) w8 _)
  clear a0 a1 a2 a3 a4 a5 a6 a7 a8 a9 a10 a11 a12 a13 a14 a15 a16 a17 f0 f1 f2 f3 f4 f5 gr HG ow b6 b7 b8 B5 B6 B7 B8 R5 R6 R7 R8 RU RU6 RU7 RU8 TU5 TU6 U5 q0 q1 q2 q3 q4 q5 cc0 cc1 cc2 cc3 cc4 cc5 i0 i1 i2 i3 i4 i5 j0 j1 j2 j3 j4 j5 l0 l1 l2 l3 l4 l5 hs1 hs2 how
  generalize (((((w8.setCell ⟨bu, 0, none⟩ (.int .i64 k)).setCell ⟨bu, 1, none⟩ (.string t)).setCell ⟨bu, 2, none⟩ (.int .i64 n)).setCell ⟨bu, 3, none⟩ (.slice p1 sn pc1)).setCell ⟨bu, 4, none⟩ (.slice p2 an pc2)).setCell ⟨bu, 5, none⟩ (.slice p3 L pc3) = w9 at *
  obtain ⟨q0, q1, q2, q3, q4, q5⟩ := box6 R9
  obtain ⟨s0, s1, s2, s3, s4, s5⟩ := box6 RU9
  have hmid := HX.out
  obtain ⟨P1, PC1, P2, PC2, P3, PC3, M, VALS, EV, f1, f2, h1, h2, h12, hM, hMV, K, hbd⟩ := OW
  injection EV with EV0 EV
  injection EV with EV1 EV
  injection EV with EV2 EV
  injection EV with EV3 EV
  injection EV with EV4 EV
  injection EV with EV5 EV
  injection EV3 with EV6 EV7 EV8
  injection EV4 with EV9 EVa EVb
  injection EV5 with EVc EVd EVe
  subst EV6 EV8 EV9 EVb EVc EVe
  have hHX := HX.out
  rw [HX.out.1, HX.out.2.1, HX.out.2.2.1, HX.out.2.2.2.2.2] at hbd
  rw [HX.out.2.2.2.1] at f1
  rw [HX.out.2.2.2.2.1] at f2
  rw [HX.out.2.2.2.2.2] at K
  clear hHX EV EV0 EV1 EV2 EV7 EVa EVd
  have kx := box_below w9 (.cells #[.int .i64 nn] 2)
  have lenr := f2.rd.room
  have hsm : an ≤ 64 := by
    have q := HF.out.2.2.1
    rw [HX.out.1] at q
    have := arr_small q
    have e := HX.out
    omega
  obtain ⟨co, cc, w10, hrun, FN, gr10, hat⟩ := run_joinW tyL 26 w7.heap.size p2 (some ⟨w9.heap.size, 0, none⟩) an pc2 1 1 x.nd.at' [nn] (f2.below kx (Nat.le_refl _)) (rd_one w9 2 nn HN.out) (sl_one _) (by omega) (by have := kx.size; omega)
  have hge : ∀ q, (Value.slice p2 an pc2).ownBlock = some q → w7.heap.size ≤ q := fun q e => (f2.atb e).1
  have RU10 := (gr10.block bu (by have := kx.size; omega) (fun e => by have := hge _ e.symm; omega)).trans ((kx.block bu (Array.getElem?_eq_some_iff.1 RU9).1).trans RU9)
  have R10 := (gr10.block w.heap.size (by have := kx.size; omega) (fun e => by have := hge _ e.symm; omega)).trans ((kx.block w.heap.size (Array.getElem?_eq_some_iff.1 R9).1).trans R9)
  have B10 := (B9.trans (kx.mono B9.size)).grown gr10 (Nat.le_trans B9.size kx.size) (fun q e => by have := hge q e; omega)
  have fr := frozen_of_row w10 bu 4 _ 31 RU10
  have c10 := box6 RU10
  obtain ⟨d0, d1, d2, d3, d4, d5⟩ := c10
  have G9 := set1 w10 bu 4 (.slice co (an + 1) cc)
  have RV := heap_setCell_same w10 bu 4 _ 31 (.slice co (an + 1) cc) RU10
  have RT := (G9.block w.heap.size (Array.getElem?_eq_some_iff.1 R10).1 (fun e => by injection e with e; omega)).trans R10
  have BV := B10.grown G9 B10.size (fun q e => by injection e with e; omega)
  have ku : Kb (fun b => w7.heap.size ≤ b) w10 (w10.setCell ⟨bu, 4, none⟩ (.slice co (an + 1) cc)) := ⟨G9.size, fun b hb hl => G9.block b hl (fun e => by injection e with e; omega)⟩
  have TV := own_atom f1 f2 h2 h12 hM K HX.out.2.2.2.2.2 hbd kx FN gr10 ku
  obtain ⟨Y, hY⟩ : ∃ Y : Tr (d + 1), Y = Tr.mk ⟨k, t, n, x.nd.sh, x.nd.at' ++ [nn]⟩ x.ks := ⟨_, rfl⟩
  rw [← hY] at TV
  clear f1 f2 h1 h2 h12 hM hMV K FN hsm hge hat kx B10 R10 ku lenr
  go_upto_region 28 with (at_builtin; refine wpList_append_run rfl _ _ _ rfl _ (by exact hrun) ?_)
  clear fr G9 hrun gr10 d0 d1 d2 d3 d4 d5 RU10
  generalize w10.setCell ⟨bu, 4, none⟩ (.slice co (an + 1) cc) = wv at *
  clear q0 q1 q2 q3 q4 q5 s0 s1 s2 s3 s4 s5 B9 R9 RU9
  obtain ⟨y0, y1, y2, y3, y4, y5⟩ := box6 RT
  obtain ⟨z0, z1, z2, z3, z4, z5⟩ := box6 RV
  have hs3 := tsame_any (d + 1) x (d + 1) Y _ _ _ _ _ _ _ _ _ _ _ _ _ (Tv.below BV (Nat.le_refl _) _ _ _ HT.out) TV
  rw [alk_diff (.inr (.inr (.inr (.inr (.inl (by rw [hY]; show x.nd.at'.length ≠ (x.nd.at' ++ [nn]).length; rw [List.length_append]; simp)))))), Bool.and_false, Bool.and_false] at hs3
  have hs4 := fun V (b : Below wv.heap.size wv V) => tsame_any (d + 1) Y (d + 1) x _ _ _ _ _ _ _ _ _ _ _ _ V (Tv.below b (Nat.le_refl _) _ _ _ TV) (Tv.below (BV.trans (b.mono BV.size)) (Nat.le_refl _) _ _ _ HT.out)
  rw [alk_diff (.inr (.inr (.inr (.inr (.inl (by rw [hY]; show (x.nd.at' ++ [nn]).length ≠ x.nd.at'.length; rw [List.length_append]; simp)))))), Bool.and_false, Bool.and_false] at hs4
  have hm5 := fun V (b : Below wv.heap.size wv V) => tmay_any (d + 1) Y _ _ _ _ _ _ CK V (Tv.below b (Nat.le_refl _) _ _ _ TV)
  have hbd := may_bad (y := Y) HC.out (.inr (.inr (.inl (by rw [hY]; exact arr_atom (by have := HF.out.2.2.1; rw [HX.out.1] at this; exact this)))))
  rcases hbd with hbd | hbd
  · rw [hbd] at hm5
    go_wp2_with (first
      | (go_at_call 15; (with_reducible refine hs3.mono ?_); rintro e wA ⟨rfl, bA⟩; obtain ⟨i0, i1, i2, i3, i4, i5⟩ := box6 ((bA.block w.heap.size (Array.getElem?_eq_some_iff.1 RT).1).trans RT); obtain ⟨j0, j1, j2, j3, j4, j5⟩ := box6 ((bA.block bu (Array.getElem?_eq_some_iff.1 RV).1).trans RV))
      | (go_at_call 15; (with_reducible refine (hs4 _ bA).mono ?_); rintro e wB ⟨rfl, bB⟩; have bAB := bA.trans (bB.mono bA.size); obtain ⟨l0, l1, l2, l3, l4, l5⟩ := box6 ((bAB.block bu (Array.getElem?_eq_some_iff.1 RV).1).trans RV))
      | (go_at_call 12; (with_reducible refine (hm5 _ bAB).mono ?_); rintro e wC ⟨rfl, bC⟩))
    go_ret
    exact ⟨rfl, BV.trans ((bAB.trans (bC.mono bAB.size)).mono BV.size)⟩
  · rw [hbd] at hm5
    go_wp2_with (first
      | (go_at_call 15; (with_reducible refine hs3.mono ?_); rintro e wA ⟨rfl, bA⟩; obtain ⟨i0, i1, i2, i3, i4, i5⟩ := box6 ((bA.block w.heap.size (Array.getElem?_eq_some_iff.1 RT).1).trans RT); obtain ⟨j0, j1, j2, j3, j4, j5⟩ := box6 ((bA.block bu (Array.getElem?_eq_some_iff.1 RV).1).trans RV))
      | (go_at_call 15; (with_reducible refine (hs4 _ bA).mono ?_); rintro e wB ⟨rfl, bB⟩; have bAB := bA.trans (bB.mono bA.size); obtain ⟨l0, l1, l2, l3, l4, l5⟩ := box6 ((bAB.block bu (Array.getElem?_eq_some_iff.1 RV).1).trans RV))
      | (go_at_call 12; (with_reducible refine (hm5 _ bAB).mono ?_); rintro e wC ⟨rfl, bC⟩))
    go_ret
    exact ⟨rfl, BV.trans ((bAB.trans (bC.mono bAB.size)).mono BV.size)⟩
end Go.Proofs.YtiahilelcppfgaaGreat
