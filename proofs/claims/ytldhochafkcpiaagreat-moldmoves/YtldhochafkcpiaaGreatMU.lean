
/- Contract of package mold: a scalar behind an array. -/

import Derived.Test.YtldhochafkcpiaaGreatMT

namespace Go.Proofs.YtldhochafkcpiaaGreat

open Go.RowKit

set_option linter.unusedVariables false

theorem pz_consI (z : Int) (r : List Int) (hz : z = 1) : pz (z :: r) = pz r := by
  subst hz
  simp [pz]
theorem mayF_one {r : List Int} (h : mayF r = 0) (hl : r.length + 1 ≤ 8) : mayF (1 :: r) = 0 := by
  obtain ⟨h1, h2, h3⟩ := mayF_zero h
  refine mayF_ok (fun k hk => ?_) (by simpa using hl) (by rw [pz_consI 1 r rfl]; exact h3)
  cases k with
  | zero => show (0 : Int) ≤ 1; omega
  | succ k => exact h1 k (by simpa using hk)
theorem prF_bd' {s : List Int} (h : mayF s = 0) : 0 ≤ pr s ∧ pr s ≤ 4096 := by
  have := pr_small h s.length (Nat.le_refl _)
  rwa [List.take_length] at this

set_option linter.unusedSimpArgs false in
set_option maxHeartbeats 4000000 in
set_option maxRecDepth 20000 in
theorem join_sc (xso xo so ao : Option Addr) (xsn xsc xn xc sc an ac : Nat) (sx ax ay0 : List Int) (w : World) (hsx : Rd w xso xsn sx) (ssx : Sl xso xsn xsc) (hax : Rd w xo xn ax) (hsy : Rd w so 0 []) (ssy : Sl so 0 sc) (hay : Rd w ao an ay0) (mx : mayA sx ax = 0) (han : 0 < an) (hn : 0 < xsn) :
    Calls Tryz.prog 25 #[.agg #[.slice xso xsn xsc, .slice xo xn xc], .agg #[.slice so 0 sc, .slice ao an ac]] w fun e w' => ∃ o1 n1 c1 o2 n2 c2, e = .returned (.tuple #[.agg #[.slice o1 n1 c1, .slice o2 n2 c2], .int .i64 (mayF ((nth sx 0 + nth (1 :: sx.drop 1) 0) :: sx.drop 1))]) ∧ Ft 3 w' w.heap.size o1 n1 c1 (filS ((nth sx 0 + nth (1 :: sx.drop 1) 0) :: sx.drop 1)) ∧ Ft 2 w' w.heap.size o2 n2 c2 (jnA ((nth sx 0 + nth (1 :: sx.drop 1) 0) :: sx.drop 1) (ax ++ List.replicate (pr (sx.drop 1)).toNat (nth ay0 0))) ∧ Below w.heap.size w w' := by
  have D0 := dw_start w xso xsn xsc xo xn xc so 0 sc ao an ac
  have D1 := D0.drew
  have hD1S := D1.all
  obtain ⟨TT, hTT⟩ : ∃ T : List Int, 1 :: sx.drop 1 = T := ⟨_, rfl⟩
  obtain ⟨AYY, hAYY⟩ : ∃ T : List Int, List.replicate (pr (sx.drop 1)).toNat (nth ay0 0) = T := ⟨_, rfl⟩
  obtain ⟨SYY, hSYY⟩ : ∃ T : List Int, sx.drop 1 = T := ⟨_, rfl⟩
  have mi : mayF (sx.drop 1) = 0 := mayF_tl (mayA_zero mx).1
  have cI1 := item6_any so ao 0 sc an ac [] _ (hsy.below D1.bel (Nat.le_refl _)) ssy
  have cI2 := fun V (D : Dw w V xso xsn xsc xo xn xc so 0 sc ao an ac) => item6_any xso xo xsn xsc xn xc sx V (hsx.below D.bel (Nat.le_refl _)) ssx
  have cS1 := fun V to tn tc => spread_no xso xo to xsn xsc xn xc tn tc V hn
  have cS2 := fun V to tn tc (D : Dw w V xso xsn xsc xo xn xc so 0 sc ao an ac) (ht : Rd V to tn (sx.drop 1)) (st : Sl to tn tc) => spread_yes so ao to sc an ac tn tc ay0 (sx.drop 1) V (hay.below D.bel (Nat.le_refl _)) han ht st mi
  rw [hTT, hAYY]
  have HTT : Hid (1 :: sx.drop 1 = TT) := hTT
  have HAY : Hid (List.replicate (pr (sx.drop 1)).toNat (nth ay0 0) = AYY) := hAYY
  clear hTT hAYY
  go_enter Tryz.func25, Tryz.ntmps25
  go_wp2
  refine wp_region_R (fun V => V.cell? ⟨w.heap.size, 0, none⟩ = some (.slice xso xsn xsc) ∧ V.cell? ⟨w.heap.size, 1, none⟩ = some (.slice xo xn xc) ∧ V.cell? ⟨w.heap.size + 1, 0, none⟩ = some (.slice so 0 sc) ∧ V.cell? ⟨w.heap.size + 1, 1, none⟩ = some (.slice ao an ac) ∧ Dw w V xso xsn xsc xo xn xc so 0 sc ao an ac) (fun j => decide (j < 9)) (by kernel_rfl) ?_
  refine wpAnyR_take (i := 0) (v := .agg #[.slice xso xsn xsc, .slice xo xn xc]) rfl (by kernel_rfl) (by kernel_rfl) (by kernel_rfl) (by kernel_rfl) (fun _ _ _ h => h) (Or.inl ⟨by rfl, fun V hV => ?_⟩) ?_ ?_
  · obtain ⟨h0, h1, h2, h3, _⟩ := hV
    go_simp
  · exact hD1S
  (try simp only [Act.put, List.setIfInBounds_toArray, List.set_cons_zero, List.set_cons_succ])
  refine wpAnyR_take (i := 1) (v := .agg #[.slice so 0 sc, .slice ao an ac]) rfl (by kernel_rfl) (by kernel_rfl) (by kernel_rfl) (by kernel_rfl) (fun _ _ _ h => h) (Or.inl ⟨by rfl, fun V hV => ?_⟩) ?_ ?_
  · obtain ⟨h0, h1, h2, h3, _⟩ := hV
    go_simp
  · exact hD1S
  (try simp only [Act.put, List.setIfInBounds_toArray, List.set_cons_zero, List.set_cons_succ])
  refine wpAnyR_take (i := 4) (v := .agg #[.slice so 0 sc, .slice ao an ac]) rfl (by kernel_rfl) (by kernel_rfl) (by kernel_rfl) (by kernel_rfl) (fun _ _ _ h => h) (Or.inl ⟨by rfl, fun V hV => ?_⟩) ?_ ?_
  · obtain ⟨h0, h1, h2, h3, _⟩ := hV
    go_simp
  · exact hD1S
  (try simp only [Act.put, List.setIfInBounds_toArray, List.set_cons_zero, List.set_cons_succ])
  refine wpAnyR_take (i := 5) (v := .agg #[.slice xso xsn xsc, .slice xo xn xc]) rfl (by kernel_rfl) (by kernel_rfl) (by kernel_rfl) (by kernel_rfl) (fun _ _ _ h => h) (Or.inl ⟨by rfl, fun V hV => ?_⟩) ?_ ?_
  · obtain ⟨h0, h1, h2, h3, _⟩ := hV
    go_simp
  · exact hD1S
  (try simp only [Act.put, List.setIfInBounds_toArray, List.set_cons_zero, List.set_cons_succ])
  refine wpAnyR_one (i := 2) (by kernel_rfl) rfl (fun K hK => ?_)
  go_simp
  go_wp2_with (go_at_call 48; (with_reducible refine cI1.mono ?_); rintro e w4 ⟨o4, c4, rfl, f4, k4⟩; have D4 := D1.below k4 (Nat.le_refl _); refine hK _ _ ⟨fun _ => D4.all, ?_⟩; clear hK)
  (try simp only [Act.put, List.setIfInBounds_toArray, List.set_cons_zero, List.set_cons_succ])
  refine wpAnyR_one (i := 3) (by kernel_rfl) rfl (fun K hK => ?_)
  go_simp
  go_wp2_with (go_at_call 51; (with_reducible refine (cS1 w4 _ _ _).mono ?_); rintro e w5 ⟨rfl, k5⟩; have D5 := D4.below k5 (Nat.le_refl _); refine hK _ _ ⟨fun _ => D5.all, ?_⟩; clear hK)
  (try simp only [Act.put, List.setIfInBounds_toArray, List.set_cons_zero, List.set_cons_succ])
  refine wpAnyR_one (i := 6) (by kernel_rfl) rfl (fun K hK => ?_)
  go_simp
  go_wp2_with (go_at_call 48; (with_reducible refine (cI2 w5 D5).mono ?_); rintro e w6 ⟨o6, c6, rfl, f6, k6⟩; have D6 := D5.below k6 (Nat.le_refl _); refine hK _ _ ⟨fun _ => D6.all, ?_⟩; clear hK)
  (try simp only [Act.put, List.setIfInBounds_toArray, List.set_cons_zero, List.set_cons_succ])
  refine wpAnyR_one (i := 7) (by kernel_rfl) rfl (fun K hK => ?_)
  go_simp
  go_wp2_with (go_at_call 51; (with_reducible refine (cS2 w6 _ _ _ D6 f6.rd f6.sl).mono ?_); rintro e w7 ⟨o7, n7, c7, o7a, n7a, c7a, rfl, f7, f7a, k7⟩; have D7 := D6.below k7 (Nat.le_refl _); refine hK _ _ ⟨fun _ => D7.all, ?_⟩; clear hK)
  (try simp only [Act.put, List.setIfInBounds_toArray, List.set_cons_zero, List.set_cons_succ])
  obtain ⟨z0, z1, z2, z3⟩ := D7.fz
  obtain ⟨v0, v1, v2, v3, _⟩ := D7.all
  have D8 := D7.setX xso xo xsn xsc xn xc
  have D9 := D8.setY o7 o7a n7 c7 n7a c7a
  obtain ⟨y0, y1, y2, y3, _⟩ := D8.all
  obtain ⟨g0, g1, g2, g3⟩ := D8.fz
  refine wpAnyR_one (i := 8) (by kernel_rfl) rfl (fun K hK => ?_)
  go_simp
  refine hK _ _ ⟨fun _ => D8.all, ?_⟩
  clear hK
  (try simp only [Act.put, List.setIfInBounds_toArray, List.set_cons_zero, List.set_cons_succ])
  refine wpAnyR_one (i := 9) (by kernel_rfl) rfl (fun K hK => ?_)
  go_simp
  refine hK _ _ ⟨fun h => absurd h (by decide), ?_⟩
  clear hK
  (try simp only [Act.put, List.setIfInBounds_toArray, List.set_cons_zero, List.set_cons_succ])
  refine wpAnyR_done (by kernel_rfl) ?_ _
  have s6 := D6.sz
  have SS7 := f7.sl
  have F7 := ft_set (w := w) (ft_set (w := w) f7 (b := w.heap.size) (by omega) (.slice xso xsn xsc) (.slice xo xn xc)) (b := w.heap.size + 1) (by omega) (.slice o7 n7 c7) (.slice o7a n7a c7a)
  have F7a := ft_set (w := w) (ft_set (w := w) f7a (b := w.heap.size) (by omega) (.slice xso xsn xsc) (.slice xo xn xc)) (b := w.heap.size + 1) (by omega) (.slice o7 n7 c7) (.slice o7a n7a c7a)
  generalize ((((w7.setCell ⟨w.heap.size, 0, none⟩ (.slice xso xsn xsc)).setCell ⟨w.heap.size, 1, none⟩ (.slice xo xn xc)).setCell ⟨w.heap.size + 1, 0, none⟩ (.slice o7 n7 c7)).setCell ⟨w.heap.size + 1, 1, none⟩ (.slice o7a n7a c7a)) = W9 at *
  rw [hSYY] at F7
  have hsl := hsx.len
  have hn7 : n7 + 1 = xsn := by rw [← F7.rd.len, ← hSYY, List.length_drop]; omega
  have HT : Hid (List.replicate (xsn - n7) (1 : Int) ++ SYY = TT) := by show _ = _; rw [show xsn - n7 = 1 by omega, ← HTT.out, hSYY]; rfl
  have HT1 : Hid (TT.drop 1 = sx.drop 1) := by show _ = _; rw [← HTT.out]; rfl
  have HY9 : Hid (Rd W9 o7 n7 SYY) := F7.rd
  rw [HAY.out] at F7a
  have HB9 : Hid (Rd W9 o7a n7a AYY) := F7a.rd
  have hyn : n7 ≤ xsn := by omega
  have HN0 : Hid (0 ≤ nth TT 0 ∧ nth TT 0 ≤ 4096) := by show _ ∧ _; rw [← HTT.out]; exact ⟨by show (0 : Int) ≤ 1; omega, by show (1 : Int) ≤ 4096; omega⟩
  have pb := prF_bd' mi
  have HMT : Hid (mayF TT = 0 ∧ (AYY.length : Int) = pr TT) := by
    show _ ∧ _
    rw [← HTT.out, ← HAY.out]
    refine ⟨mayF_one mi (by rw [List.length_drop]; have := (mayF_zero (mayA_zero mx).1).2.1; omega), ?_⟩
    rw [List.length_replicate, pr_cons]; omega
  have HLX : Hid (ax.length ≤ 5000) := Nat.le_trans (at_len mx) (by omega)
  have HLY : Hid (AYY.length ≤ 5000) := by show _ ≤ _; rw [← HAY.out, List.length_replicate]; omega
  clear hSYY hn7 mi pb hsl
  clear y0 y1 y2 y3 z0 z1 z2 z3 g0 g1 g2 g3 v0 v1 v2 v3 D8 D7 D6 D5 D4 f4 f6 k4 k5 k6 k7 cI1 cI2 cS1 cS2 D0 D1 hD1S f7 f7a F7 F7a s6
  obtain ⟨x0, x1, x2, x3, _⟩ := D9.all
  have hmx := fun X => run_max3 (P := Tryz.prog) X #[3, 3, 3] 3 xsn n7 hn hyn
  have hx8 : xsn ≤ 8 := by rw [← hsx.len]; exact (mayF_zero (mayA_zero mx).1).2.1
  have cR1 := fun V (D : Dw w V xso xsn xsc xo xn xc o7 n7 c7 o7a n7a c7a) => ranked_any xso xsn xsc xsn sx V (hsx.below D.bel (Nat.le_refl _)) ssx (Nat.le_refl _) hx8
  have cR2 := fun V (h : Rd V o7 n7 SYY) => ranked_any o7 n7 c7 xsn SYY V h SS7 hyn hx8
  rw [HT.out] at cR2
  rw [show List.replicate (xsn - xsn) (1 : Int) ++ sx = sx by simp] at cR1
  have D10 := D9.drew
  have K10 := (Below.refl W9.heap.size W9).drew
  go_wp2
  clear x0 x1 x2 x3
  go_region_held3 (fun V => V.cell? ⟨w.heap.size, 0, none⟩ = some (.slice xso xsn xsc) ∧ V.cell? ⟨w.heap.size, 1, none⟩ = some (.slice xo xn xc) ∧ V.cell? ⟨w.heap.size + 1, 0, none⟩ = some (.slice o7 n7 c7) ∧ V.cell? ⟨w.heap.size + 1, 1, none⟩ = some (.slice o7a n7a c7a) ∧ Dw w V xso xsn xsc xo xn xc o7 n7 c7 o7a n7a c7a) (first | exact Dw.all (by assumption) | exact Dw.all (Dw.drew (by assumption)))
    (first
      | (go_at_call 52; (with_reducible refine (cR1 _ D10).mono ?_); rintro e w11 ⟨o1, c1, rfl, f1, k11⟩; have D11 := D10.below k11 (Nat.le_refl _); have K11 := K10.trans k11)
      | (go_at_call 52; (with_reducible refine (cR2 w11 ((HY9.out.below (Below.refl _ W9).drew (Nat.le_refl _)).below k11 (Nat.le_refl _))).mono ?_); rintro e w12 ⟨o2, c2, rfl, f2, k12⟩; have D12 := D11.below k12 (Nat.le_refl _); have K12 := K11.trans (k12.mono K11.size)))
  have g1 := f1.below k12 (Nat.le_refl _)
  have r1 := g1.sl
  have r2 := f2.sl
  have l1 := r1.le
  have l1' := r1.max
  have l2 := r2.le
  have l2' := r2.max
  obtain ⟨p1, hp1⟩ : ∃ po, (if c1 = 1 then o1 else Option.map (fun x => x.add 1) o1) = po := ⟨_, rfl⟩
  obtain ⟨p2, hp2⟩ : ∃ po, (if c2 = 1 then o2 else Option.map (fun x => x.add 1) o2) = po := ⟨_, rfl⟩
  obtain ⟨s1, t1⟩ := g1.rd.sub r1 hp1 (show 1 ≤ xsn by omega) (Nat.le_refl _)
  obtain ⟨s2, t2⟩ := f2.rd.sub r2 hp2 (show 1 ≤ xsn by omega) (Nat.le_refl _)
  rw [List.take_of_length_le (by rw [List.length_drop, hsx.len]; exact Nat.le_refl _)] at s1
  rw [HT1.out, List.take_of_length_le (by rw [List.length_drop, hsx.len]; exact Nat.le_refl _)] at s2
  obtain ⟨IT, hIT⟩ : ∃ IT, sx.drop 1 = IT := ⟨_, rfl⟩
  rw [hIT] at s1 s2
  have mIT : mayF IT = 0 := by rw [← hIT]; exact mayF_tl (mayA_zero mx).1
  have cC := cover_any (some ⟨w12.heap.size, 0, none⟩) 2 2 [IT, IT] _ ((rs_pair s1 t1 s2 t2).below (Below.refl _ _).drew (Nat.le_refl _))
  rw [(cov_twice mIT).1, (cov_twice mIT).2] at cC
  have D13 := D12.drew
  have D14 := (D12.below (box_below w12 (.cells #[.slice p1 (xsn - 1) (c1 - 1), .slice p2 (xsn - 1) (c2 - 1)] 23)) (Nat.le_refl _)).drew
  have k14 : Below w12.heap.size w12 (w12.alloc (.cells #[.slice p1 (xsn - 1) (c1 - 1), .slice p2 (xsn - 1) (c2 - 1)] 23)).drew := (box_below w12 _).drew
  have hp1' : (if c1 = 1 then o1 else Option.map (fun x : Addr => ({ block := x.block, off := x.off + 1 } : Addr)) o1) = p1 := hp1
  have hp2' : (if c2 = 1 then o2 else Option.map (fun x : Addr => ({ block := x.block, off := x.off + 1 } : Addr)) o2) = p2 := hp2
  have b1 : (1 : Int) ≤ (xsn : Int) := by omega
  have b2 : (xsn : Int) ≤ (c1 : Int) := by omega
  have b3 : (xsn : Int) ≤ (c2 : Int) := by omega
  have HITs : Hid (sx.drop 1 = IT) := hIT
  have HMIT : Hid (mayF IT = 0) := mIT
  clear cR1 cR2 hIT mIT D10 D11 hmx
  go_wp2
  go_region_held3 (fun V => Dw w V xso xsn xsc xo xn xc o7 n7 c7 o7a n7a c7a) (first | assumption | exact Dw.drew (by assumption) | exact Dw.below (by assumption) (box_below _ _) (Nat.le_refl _))
    (first
      | (go_at_call 53; (with_reducible refine cC.mono ?_); rintro e w15 ⟨co, cn, cc, rfl, fc, k15⟩; have D15 := D14.below k15 (Nat.le_refl _); have K15 := (K12.trans (k14.mono K12.size)).trans (k15.mono (Nat.le_trans K12.size k14.size))))
  obtain rfl : cn = xsn - 1 := by rw [← fc.rd.len, ← HITs.out, List.length_drop, hsx.len]
  have G1 := g1.below (k14.trans (k15.mono (by simp))) (Nat.le_refl _)
  have G2 := f2.below (k14.trans (k15.mono (by simp))) (Nat.le_refl _)
  clear s1 s2 t1 t2 hp1 hp2 hp1' hp2' cC k14 D14 D13 D12 g1 f1 f2 k11 k12 k15 D9 l1 l1' l2 l2' b2 b3 r1 r2
  have scs := fc.ft.sl
  have rc := fc.rd
  obtain ⟨e1, o1o, rfl, hl1, hc1⟩ := G1.rd.cells (by omega)
  obtain ⟨e2, o2o, rfl, hl2, hc2⟩ := G2.rd.cells (by omega)
  have q1 := hc1 0 (by omega)
  have q2 := hc2 0 (by omega)
  rw [Nat.add_zero] at q1 q2
  have nz1 := nth_small (mayA_zero mx).1 (k := 0) (by rw [hsx.len]; exact hn)
  have nz2 := HN0.out
  have ws : IntKind.i64.wrap (nth sx 0 + nth TT 0) = nth sx 0 + nth TT 0 := wrapIn _ (by omega)
  obtain ⟨ZS, hZS⟩ : ∃ z, nth sx 0 + nth TT 0 = z := ⟨_, rfl⟩
  rw [hZS] at ws
  have zb : -9223372036854775808 ≤ ZS ∧ ZS ≤ 9223372036854775807 := by omega
  have k16 := (box_below w15 (.cells #[.int .i64 ZS] 3))
  have fl := ft_new 3 w15 [ZS] (by simp) (num1 zb.1 zb.2)
  have k17 := box_below (w15.alloc (.cells #[.int .i64 ZS] 3)) (.cells #[.slice (some ⟨w15.heap.size, 0, none⟩) 1 1, .slice co (xsn - 1) cc] 23)
  have hv := allocNew (w15.alloc (.cells #[.int .i64 ZS] 3)) (.cells #[.slice (some ⟨w15.heap.size, 0, none⟩) 1 1, .slice co (xsn - 1) cc] 23)
  have cCo := concat_any (some ⟨w15.heap.size, 0, none⟩) co 1 1 (xsn - 1) cc (w15.heap.size + 1) [ZS] IT ((w15.alloc (.cells #[.int .i64 ZS] 3)).alloc (.cells #[.slice (some ⟨w15.heap.size, 0, none⟩) 1 1, .slice co (xsn - 1) cc] 23)).drew (by rw [World.size_alloc] at hv; exact hv) ((fl.rd.below k17 (Nat.le_refl _)).below (Below.refl _ _).drew (Nat.le_refl _)) fl.sl (((rc.below k16 (Nat.le_refl _)).below k17 (Nat.le_refl _)).below (Below.refl _ _).drew (Nat.le_refl _)) scs (by omega) (by omega)
  have D16 := D15.drew
  have k1617 : Below w15.heap.size w15 ((w15.alloc (.cells #[.int .i64 ZS] 3)).alloc (.cells #[.slice (some ⟨w15.heap.size, 0, none⟩) 1 1, .slice co (xsn - 1) cc] 23)).drew := (k16.trans (k17.mono (by simp))).drew
  have HZS : Hid (nth sx 0 + nth TT 0 = ZS) := hZS
  have ALL15 : ∀ V, Below w15.heap.size w15 V → V.cell? ⟨e1, o1o, none⟩ = some (.int .i64 (nth sx 0)) ∧ V.cell? ⟨e2, o2o, none⟩ = some (.int .i64 (nth TT 0)) ∧ Below w15.heap.size w15 V := fun V hV => ⟨(hV.cell (p := ⟨e1, o1o, none⟩) hl1).trans q1, (hV.cell (p := ⟨e2, o2o, none⟩) hl2).trans q2, hV⟩
  clear hc1 hc2 hv fl q1 q2
  go_wp2
  go_region_held3 (fun V => V.cell? ⟨e1, o1o, none⟩ = some (.int .i64 (nth sx 0)) ∧ V.cell? ⟨e2, o2o, none⟩ = some (.int .i64 (nth TT 0)) ∧ Below w15.heap.size w15 V) (first | exact ALL15 _ (by assumption) | exact ALL15 _ (Below.refl _ _).drew | exact ALL15 _ k16.drew | exact ALL15 _ k1617 | exact ALL15 _ ((‹_ ∧ _ ∧ Below w15.heap.size w15 _›).2.2.alloc (‹_ ∧ _ ∧ Below w15.heap.size w15 _›).2.2.size _) | exact ALL15 _ ((by assumption : Below w15.heap.size w15 _)))
    (first
      | (go_at_call 47; (with_reducible refine cCo.mono ?_); rintro e w18 ⟨o3, c3, rfl, f3, k18⟩; have K18 : Below w15.heap.size w15 w18 := k1617.trans (k18.mono (by simp; omega))))
  clear hZS
  have D18 := D15.below K18 (Nat.le_refl _)
  have B918 := K15.trans (K18.mono K15.size)
  have cM := may_any o3 (1 + (xsn - 1)) c3 ([ZS] ++ IT) w18 f3.rd
  rw [show [ZS] ++ IT = ZS :: IT from rfl] at cM f3
  have HR : Hid (nth sx 0 + nth TT 0 = ZS ∧ sx.drop 1 = IT) := ⟨HZS.out, HITs.out⟩
  have G1' := G1.below K18 (Nat.le_refl _)
  have G2' := G2.below K18 (Nat.le_refl _)
  have rc' := rc.below K18 (Nat.le_refl _)
  by_cases hM : mayF (ZS :: IT) = 0
  · rw [hM] at cM
    have D19 := D18.drew
    have HM0 : Hid (mayF (ZS :: IT) = 0) := hM
    have bw := D19.bel
    have kd := (Below.refl w18.heap.size w18).drew
    have cL1 := laid_any xso xo (some ⟨e1, o1o, none⟩) co xsn xsc xn xc xsn c1 (xsn - 1) cc ax sx IT w18.drew (hax.below bw (Nat.le_refl _)) (G1'.rd.below kd (Nat.le_refl _)) (mayA_zero mx).1 hn (rc'.below kd (Nat.le_refl _)) HITs.out.symm (mayA_zero mx).2
    have HB18 : Hid (Rd w18.drew o7a n7a AYY) := ((HB9.out.below B918 (Nat.le_refl _))).below kd (Nat.le_refl _)
    have cL2 := fun V (k : Below w18.drew.heap.size w18.drew V) => laid_any o7 o7a (some ⟨e2, o2o, none⟩) co n7 c7 n7a c7a xsn c2 (xsn - 1) cc AYY TT IT V (HB18.out.below k (Nat.le_refl _)) ((G2'.rd.below kd (Nat.le_refl _)).below k (Nat.le_refl _)) HMT.out.1 hn ((rc'.below kd (Nat.le_refl _)).below k (Nat.le_refl _)) (HITs.out.symm.trans HT1.out.symm) HMT.out.2
    clear hM rc rc' G1 G2 cCo
    go_wp2_with (go_at_call 22; (with_reducible refine cM.mono ?_); rintro e w' ⟨rfl, hw⟩; rw [hw]; clear hw w' cM)
    go_region_held3 (fun V => V.cell? ⟨w.heap.size, 0, none⟩ = some (.slice xso xsn xsc) ∧ V.cell? ⟨w.heap.size, 1, none⟩ = some (.slice xo xn xc) ∧ V.cell? ⟨w.heap.size + 1, 0, none⟩ = some (.slice o7 n7 c7) ∧ V.cell? ⟨w.heap.size + 1, 1, none⟩ = some (.slice o7a n7a c7a) ∧ Dw w V xso xsn xsc xo xn xc o7 n7 c7 o7a n7a c7a) (first | exact Dw.all (by assumption) | exact Dw.all (Dw.drew (by assumption)) | exact Dw.all (Dw.below (by assumption) (box_below _ _) (Nat.le_refl _)) | exact Dw.all (Dw.setR (by assumption) _ _))
      (first
        | (go_at_call 55; (with_reducible refine cL1.mono ?_); rintro e w20 ⟨o20, n20, c20, rfl, f20, k20⟩; have D20 := D19.below k20 (Nat.le_refl _))
        | (go_at_call 55; (with_reducible refine (cL2 w20 k20).mono ?_); rintro e w21 ⟨o21, n21, c21, rfl, f21, k21⟩; have D21 := D20.below k21 (Nat.le_refl _); have f20' := f20.below k21 (Nat.le_refl _); have D22 := D21.below (box_below w21 (.cells #[.slice o20 n20 c20, .slice o21 n21 c21] 22)) (Nat.le_refl _))
        | (go_at_call 54; (with_reducible refine (concat8_any o20 o21 n20 c20 n21 c21 w21.heap.size ax AYY _ (allocNew w21 _) (f20'.rd.below (box_below w21 _) (Nat.le_refl _)) f20'.sl (f21.rd.below (box_below w21 _) (Nat.le_refl _)) f21.sl (by rw [← f20'.rd.len]; exact HLX.out) (by rw [← f21.rd.len]; exact HLY.out)).mono ?_); rintro e w23 ⟨o23, c23, rfl, f23, k23⟩; have D23 := D22.below k23 (Nat.le_refl _); obtain ⟨u23, v23, hr23⟩ := D23.r; obtain ⟨z0, z1, z2, z3⟩ := box2 hr23))
    go_wp2
    (try simp only [Exit.inBlock, Exit.then])
    refine bodyPost_ret (v := .tuple #[.agg #[.slice o3 (1 + (xsn - 1)) c3, .slice o23 (n20 + n21) c23], .int .i64 0]) (by rw [results_cell_tmp rfl]; go_simp) rfl ?_
    rw [HR.out.1, HR.out.2, HM0.out, show jnA (ZS :: IT) (ax ++ AYY) = ax ++ AYY from if_pos HM0.out, show filS (ZS :: IT) = ZS :: IT from if_pos HM0.out]
    have s18 := D18.sz
    have s20 := D20.sz
    have s21 := k21.size
    have z22 := k23.size
    have f3' := ((((f3.below kd (Nat.le_refl _)).below k20 (Nat.le_refl _)).below k21 (Nat.le_refl _)).below (box_below w21 (.cells #[.slice o20 n20 c20, .slice o21 n21 c21] 22)) (Nat.le_refl _)).below k23 (Nat.le_refl _)
    refine ⟨_, _, _, _, _, _, rfl, (ft_set (w := w) f3' ?_ _ _).mono ?_, (ft_set (w := w) f23 ?_ _ _).mono ?_, below_set2 _ _ _ _ D23.bel (by omega) (Nat.le_refl _)⟩
    · have := D15.sz; simp; omega
    · have := D15.sz; simp; omega
    · have := D21.sz; simp; omega
    · have := D21.sz; simp; omega
  · have hM' : (mayF (ZS :: IT) != 0) = true := by simpa using hM
    have HMn : Hid (mayF (ZS :: IT) ≠ 0) := hM
    obtain ⟨u18, v18, hr18⟩ := D18.r
    obtain ⟨z0, z1, z2, z3⟩ := box2 hr18
    clear hM cCo rc rc'
    go_wp2_with (go_at_call 22; (with_reducible refine cM.mono ?_); rintro e w' ⟨rfl, hw⟩; rw [hw]; clear hw w' cM)
    (try simp only [Exit.inBlock, Exit.then])
    refine bodyPost_ret (v := .tuple #[.agg #[.slice none 0 0, .slice none 0 0], .int .i64 (mayF (ZS :: IT))]) (by rw [results_cell_tmp rfl]; go_simp) rfl ?_
    rw [HR.out.1, HR.out.2, show jnA (ZS :: IT) (ax ++ AYY) = [] from if_neg HMn.out, show filS (ZS :: IT) = [] from if_neg HMn.out]
    exact ⟨none, 0, 0, none, 0, 0, rfl, Ft.nil _ _ _, Ft.nil _ _ _, below_set2 _ _ _ _ D18.bel (by omega) (Nat.le_refl _)⟩
end Go.Proofs.YtldhochafkcpiaaGreat
