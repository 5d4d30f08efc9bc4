
/- The document's Text. -/

import Derived.Test.YtppcfpiihkaopaaGreatDoorWD

import Derived.Test.YtppcfpiihkaopaaGreatDoorVN

import Derived.Deep.RegionHeld3

namespace Go.Proofs.YtppcfpiihkaopaaGreatDoor

open Go.RowKit

set_option linter.unusedVariables false

theorem wp_region_R {P : Program} {ops : Array Oper} {Q : Exit → Act → World → Prop} {id : Nat} {a : Act} {w : World} (S : World → Prop) (A : Nat → Bool) (hm : P.follows .mixedOrders = true)
    (h : wpAnyR P .any ops Q S A ops.size (Array.replicate ops.size false) a w.drew) : (Code.region id ops true).wp P Q a w :=
  wp_region_any hm (wpAny_of_R _ _ _ _ h)
set_option maxHeartbeats 2000000 in
theorem rtext_no (so ao : Option Addr) (sn sc an ac : Nat) (S A : List Int) (w : World) (h : Rd w so sn S) (g : Rd w ao an A) (my : mayA S A ≠ 0) :
    Calls Tryz.prog 14 #[.agg #[.slice so sn sc, .slice ao an ac]] w fun e w' => e = .returned (.tuple #[.string ⟨#[]⟩, .int .i64 1]) ∧ Below w.heap.size w w' := by
  have k0 := box_below w (.cells #[.slice so sn sc, .slice ao an ac] 36)
  have z0 := allocNew w (.cells #[.slice so sn sc, .slice ao an ac] 36)
  obtain ⟨y0, y1, _, _⟩ := box2 z0
  have cM := may4_any so ao sn sc an ac S A _ (h.below k0 (Nat.le_refl _)) (g.below k0 (Nat.le_refl _))
  rw [show (mayA S A == 0) = false from by simpa using my] at cM
  clear my
  go_enter Tryz.func14, Tryz.ntmps14
  go_wp2_with (go_at_call 29; (with_reducible refine cM.mono ?_); rintro e w1 ⟨rfl, k1⟩; have K1 := k0.trans (k1.mono k0.size))
  go_ret2
  exact ⟨rfl, K1⟩
set_option maxHeartbeats 4000000 in
theorem rtext_line (so ao : Option Addr) (sn sc an ac : Nat) (S A : List Int) (w : World) (h : Rd w so sn S) (g : Rd w ao an A) (my : mayA S A = 0) (hs : sn < 2 ∨ an = 0) (T : Tb w) :
    Calls Tryz.prog 14 #[.agg #[.slice so sn sc, .slice ao an ac]] w fun e w' => e = .returned (.tuple #[.string ⟨(inL A).toArray⟩, .int .i64 0]) ∧ Below w.heap.size w w' := by
  have k0 := box_below w (.cells #[.slice so sn sc, .slice ao an ac] 36)
  have z0 := allocNew w (.cells #[.slice so sn sc, .slice ao an ac] 36)
  obtain ⟨y0, y1, _, _⟩ := box2 z0
  have cM := may4_any so ao sn sc an ac S A _ (h.below k0 (Nat.le_refl _)) (g.below k0 (Nat.le_refl _))
  rw [show (mayA S A == 0) = true from by rw [my]; rfl] at cM
  obtain ⟨m1, m2⟩ := mayA_zero my
  have a4 : an ≤ 4096 := by have := pr_le m1; rw [g.len] at m2; omega
  have BX : ∀ V, Below w.heap.size w V → Rd V ao an A ∧ Tb V := fun V k => ⟨g.below k (Nat.le_refl _), T.below k⟩
  clear my m1 m2
  by_cases s2 : sn < 2
  · have t2 : decide ((sn : Int) < 2) = true := by simp; omega
    go_enter Tryz.func14, Tryz.ntmps14
    go_wp2_with (first
      | (go_at_call 29; (with_reducible refine cM.mono ?_); rintro e w1 ⟨rfl, k1⟩; have K1 := k0.trans (k1.mono k0.size); have z1 := (k1.block w.heap.size (by simp)).trans z0; obtain ⟨v0, v1, _, _⟩ := box2 z1; have cL := numbers10_any ao an ac A w1 (BX _ K1).1 a4 (BX _ K1).2)
      | (go_at_call 30; (with_reducible refine cL.mono ?_); rintro e w3 ⟨rfl, k3⟩; have K3 := K1.trans (k3.mono K1.size)))
    go_ret2
    exact ⟨ret_pair rfl, K3⟩
  · have t2 : decide ((sn : Int) < 2) = false := by simp; omega
    have a0 : an = 0 := by omega
    subst a0
    have HS : Hid (¬ sn < 2) := s2
    go_enter Tryz.func14, Tryz.ntmps14
    go_wp2_with (first
      | (go_at_call 29; (with_reducible refine cM.mono ?_); rintro e w1 ⟨rfl, k1⟩; have K1 := k0.trans (k1.mono k0.size); have z1 := (k1.block w.heap.size (by simp)).trans z0; obtain ⟨v0, v1, _, _⟩ := box2 z1; have cL := numbers10_any ao 0 ac A w1 (BX _ K1).1 a4 (BX _ K1).2)
      | (go_at_call 30; (with_reducible refine cL.mono ?_); rintro e w3 ⟨rfl, k3⟩; have K3 := K1.trans (k3.mono K1.size)))
    go_ret2
    exact ⟨ret_pair rfl, K3⟩
set_option linter.unusedSimpArgs false in
set_option maxHeartbeats 8000000 in
set_option maxRecDepth 100000 in
theorem rtext_cols (so ao : Option Addr) (sn sc an ac m : Nat) (S A : List Int) (w : World) (h : Rd w so sn S) (g : Rd w ao an A) (my : mayA S A = 0) (hs : 2 ≤ sn) (ha : 0 < an) (hmm : nth S (sn - 1) = (m : Int)) (T : Tb w) :
    Calls Tryz.prog 14 #[.agg #[.slice so sn sc, .slice ao an ac]] w fun e w' => e = .returned (.tuple #[.string ⟨(txK S A m an an).toArray⟩, .int .i64 0]) ∧ Below w.heap.size w w' := by
  have k0 := box_below w (.cells #[.slice so sn sc, .slice ao an ac] 36)
  have z0 := allocNew w (.cells #[.slice so sn sc, .slice ao an ac] 36)
  obtain ⟨y0, y1, _, _⟩ := box2 z0
  have cM := may4_any so ao sn sc an ac S A _ (h.below k0 (Nat.le_refl _)) (g.below k0 (Nat.le_refl _))
  rw [show (mayA S A == 0) = true from by rw [my]; rfl] at cM
  obtain ⟨m1, m2⟩ := mayA_zero my
  have hAl := g.len
  have hSl := h.len
  have hpr : (an : Int) = pr S := by rw [hAl] at m2; exact m2
  have a4 : an ≤ 4096 := by have := pr_le m1; omega
  have s8 : sn ≤ 8 := by have := (mayF_zero m1).2.1; rw [hSl] at this; exact this
  have hpos := allPos_of m1 (p := 0) (by omega) (by omega)
  have hm1 : 1 ≤ m := by have := hpos (sn - 1) (by omega); rw [hmm] at this; omega
  have hml : m ≤ 4096 := by
    have e := pr_le m1
    have h1 := List.take_append_drop (sn - 1) S
    have : (m : Int) ≤ pr S := by
      rw [← h1, pr_app, pr_drop (by omega), List.drop_of_length_le (by omega), hmm, show pr ([] : List Int) = 1 from rfl, Int.mul_one]
      have h2 : 1 ≤ pr (S.take (sn - 1)) := by
        have := hpos
        have q : pr S = pr (S.take (sn - 1)) * m := by
          conv => lhs; rw [← h1]
          rw [pr_app, pr_drop (by omega), List.drop_of_length_le (by omega), hmm, show pr ([] : List Int) = 1 from rfl, Int.mul_one]
        rcases Int.lt_or_le 0 (pr (S.take (sn - 1))) with c | c
        · omega
        · exfalso
          have : pr (S.take (sn - 1)) * (m : Int) ≤ 0 := Int.mul_nonpos_of_nonpos_of_nonneg c (by omega)
          omega
      have := Int.mul_le_mul_of_nonneg_right h2 (show (0 : Int) ≤ (m : Int) by omega)
      omega
    omega
  have HM : Hid (mayF S = 0) := m1
  have HP : Hid ((an : Int) = pr S) := hpr
  have HS : Hid (S.length = sn) := hSl
  have HA : Hid (A.length = an) := hAl
  have HMM : Hid (nth S (sn - 1) = (m : Int)) := hmm
  have BX : Hid (∀ V, Below w.heap.size w V → Rd V so sn S ∧ Rd V ao an A ∧ Tb V) := fun V k => ⟨h.below k (Nat.le_refl _), g.below k (Nat.le_refl _), T.below k⟩
  have cS : ∀ V, Below w.heap.size w V → ∃ b off, so = some ⟨b, off, none⟩ ∧ V.cell? ⟨b, off + (sn - 1), none⟩ = some (.int .i64 (m : Nat)) := fun V k => by
    obtain ⟨b, off, e, hb, hc⟩ := (h.below k (Nat.le_refl _)).cells (by omega)
    exact ⟨b, off, e, by rw [hc (sn - 1) (by omega), hmm]⟩
  have H64 : Hid (In64 A) := in64_of g
  obtain ⟨bs, os, rfl, hbs, hcs⟩ := h.cells (by omega)
  obtain ⟨ba, oa, rfl, hba, hca⟩ := g.cells (by omega)
  have cs1 : w.cell? ⟨bs, os + (sn - 1), none⟩ = some (.int .i64 (m : Nat)) := by rw [hcs (sn - 1) (by omega), hmm]
  have HCS : Hid (∀ V, Below w.heap.size w V → ∀ j, j < sn → V.cell? ⟨bs, os + j, none⟩ = some (.int .i64 (nth S j))) := fun V k j hj => (k.cell (p := ⟨bs, _, none⟩) hbs).trans (hcs j hj)
  have HCA : Hid (∀ V, Below w.heap.size w V → ∀ j, j < an → V.cell? ⟨ba, oa + j, none⟩ = some (.int .i64 (nth A j))) := fun V k j hj => (k.cell (p := ⟨ba, _, none⟩) hba).trans (hca j hj)
  clear my m1 m2 hAl hSl hpr hpos hmm cS hcs hca h g T
  have t2 : decide ((sn : Int) < 2) = false := by simp; omega
  have t3 : ((an : Int) == 0) = false := by simp; omega
  have t3n : (an == 0) = false := by simp; omega
  go_enter Tryz.func14, Tryz.ntmps14
  go_upto_region 6 with (go_at_call 29; (with_reducible refine cM.mono ?_); rintro e w1 ⟨rfl, k1⟩; have K1 := k0.trans (k1.mono k0.size); have z1 := (k1.block w.heap.size (by simp)).trans z0; obtain ⟨v0, v1, _, _⟩ := box2 z1)
  have b2 : sn - 1 < sn := by omega
  have e2 : (sn : Int) - 1 = ((sn - 1 : Nat) : Int) := by omega
  have b2' : ((sn - 1 : Nat) : Int) < (sn : Int) := by omega
  have ws : IntKind.i64.wrap ((sn : Int) - 1) = ((sn - 1 : Nat) : Int) := by rw [IntKind.wrap_i64]; omega
  have cs2 := (K1.cell (p := ⟨bs, os + (sn - 1), none⟩) hbs).trans cs1
  have HQ : Hid (∃ q, sn - 1 = q) := ⟨_, rfl⟩
  obtain ⟨q, hq⟩ := HQ.out
  have HQ : Hid (sn - 1 = q) := hq
  rw [hq] at b2 e2 b2' ws cs2
  clear hq cs1 cM k0 y0 y1 z0 k1
  have hmk := run_make_row' (P := Tryz.prog) 25 3 (.int .i64 0) 8 Tryz.underlying25 info3 rfl .i64 .i64 m (by omega) (by omega)
  go_wp2
  have kp := box_below w1 (.cells (madeCells #[.int .i64 0] m) 3)
  have Rp := allocNew w1 (.cells (madeCells #[.int .i64 0] m) 3)
  have Zp := (kp.block w.heap.size (Array.getElem?_eq_some_iff.1 z1).1).trans z1
  have Kp1 := K1.trans (kp.mono K1.size)
  rw [made_eqS S A] at Rp Zp Kp1 ⊢
  have hpw : w.heap.size < w1.heap.size := (Array.getElem?_eq_some_iff.1 z1).1
  generalize w1.alloc (.cells ((widK S A m 0).map (Value.int .i64)).toArray 3) = W1 at *
  generalize w1.heap.size = p at *
  clear hmk kp K1 z1 v0 v1 cs2 e2 ws b2 b2'
  go_loopw [7] (fun i V => ∃ k : Nat, k ≤ an ∧ i = .int .i64 (k : Nat) ∧ Below w.heap.size w V ∧ V.heap[w.heap.size]? = some (.cells #[.slice (some ⟨bs, os, none⟩) sn sc, .slice (some ⟨ba, oa, none⟩) an ac] 36 (0, 0)) ∧ V.heap[p]? = some (.cells ((widK S A m k).map (Value.int .i64)).toArray 3 (0, 0))) (fun i _ => an - (intOf i).toNat)
  case atStart => exact ⟨0, Nat.zero_le _, rfl, Kp1, Zp, Rp⟩
  case round =>
    obtain ⟨k, hk, rfl, KV, ZV, RV⟩ := hrel
    clear Kp1 Zp Rp
    by_cases hlt : k < an
    · obtain ⟨c, hcm⟩ : ∃ c, c = k % m := ⟨_, rfl⟩
      have hcl : c < m := by rw [hcm]; exact Nat.mod_lt _ (by omega)
      have hcol : Hid (colN S k = c) := by show _ = _; rw [hcm]; exact col_rem HS.out (by omega) HMM.out
      have hz := H64.out (nth A k) (by rw [nth]; rw [List.getD_eq_getElem?_getD, List.getElem?_eq_getElem (by rw [HA.out]; exact hlt)]; exact List.getElem_mem _)
      have hwl := wr_len (nth A k) hz.1 hz.2
      have hwn := widK_nn S A m H64.out k c
      have hwk := widK_len S A m k
      have cp : wr.cell? ⟨p, c, none⟩ = some (.int .i64 (nth (widK S A m k) c)) := (cell_of_row wr p c _ _ (0, 0) RV).trans (row_cell (by rw [hwk]; exact hcl))
      have HW : Hid (∃ wv, nth (widK S A m k) c = wv) := ⟨_, rfl⟩
      obtain ⟨wv, hwv⟩ := HW.out
      have HW : Hid (nth (widK S A m k) c = wv) := hwv
      rw [hwv] at cp hwn
      obtain ⟨v0, v1, _, _⟩ := box2 ZV
      have ca := HCA.out wr KV k hlt
      have hpl : p < wr.heap.size := (Array.getElem?_eq_some_iff.1 RV).1
      have hbl : w.heap.size < wr.heap.size := (Array.getElem?_eq_some_iff.1 ZV).1
      have hal : ba < wr.heap.size := Nat.lt_of_lt_of_le hba KV.size
      have HSV : Hid (∀ V, Below wr.heap.size wr V → V.cell? ⟨p, c, none⟩ = some (.int .i64 wv) ∧ V.cell? ⟨w.heap.size, 1, none⟩ = some (.slice (some ⟨ba, oa, none⟩) an ac) ∧ V.cell? ⟨ba, oa + k, none⟩ = some (.int .i64 (nth A k))) := fun V j => ⟨(j.cell (p := ⟨p, _, none⟩) hpl).trans cp, (j.cell (p := ⟨w.heap.size, _, none⟩) hbl).trans v1, (j.cell (p := ⟨ba, _, none⟩) hal).trans ca⟩
      have hrem : Int.tmod (k : Int) (m : Int) = (c : Int) := by rw [hcm, Int.ofNat_tmod]
      have hmz : ((m : Int) == 0) = false := by simp; omega
      have hmz' : ¬ (m : Int) = 0 := by omega
      have hm0 : ¬ m = 0 := by omega
      have hwc : IntKind.i64.wrap (c : Int) = (c : Int) := by rw [IntKind.wrap_i64]; omega
      have HC : Hid (c = k % m) := hcm
      clear hcm hwv
      go_upto_region 11 with fail
      refine wp_region_R (fun V => V.cell? ⟨p, c, none⟩ = some (.int .i64 wv) ∧ V.cell? ⟨w.heap.size, 1, none⟩ = some (.slice (some ⟨ba, oa, none⟩) an ac) ∧ V.cell? ⟨ba, oa + k, none⟩ = some (.int .i64 (nth A k))) (fun j => j != 19) (by kernel_rfl) ?_
      refine wpAnyR_take (i := 0) (v := .slice (some ⟨p, 0, none⟩) m m) rfl (by kernel_rfl) (by kernel_rfl) (by kernel_rfl) (by kernel_rfl) (fun _ _ _ h => h) (Or.inl ⟨by rfl, fun V hV => ?_⟩) ?_ ?_
      · obtain ⟨g1, g2, g3⟩ := hV
        go_simp
      · exact HSV.out _ (Below.refl _ wr).drew
      conv => arg 9; simp [Act.put]
      refine wpAnyR_take (i := 1) (v := .int .i64 (k : Nat)) rfl (by kernel_rfl) (by kernel_rfl) (by kernel_rfl) (by kernel_rfl) (fun _ _ _ h => h) (Or.inl ⟨by rfl, fun V hV => ?_⟩) ?_ ?_
      · obtain ⟨g1, g2, g3⟩ := hV
        go_simp
      · exact HSV.out _ (Below.refl _ wr).drew
      conv => arg 9; simp [Act.put]
      refine wpAnyR_take (i := 2) (v := .int .i64 (m : Nat)) rfl (by kernel_rfl) (by kernel_rfl) (by kernel_rfl) (by kernel_rfl) (fun _ _ _ h => h) (Or.inl ⟨by rfl, fun V hV => ?_⟩) ?_ ?_
      · obtain ⟨g1, g2, g3⟩ := hV
        go_simp
      · exact HSV.out _ (Below.refl _ wr).drew
      conv => arg 9; simp [Act.put]
      refine wpAnyR_take (i := 3) (v := .int .i64 (c : Nat)) rfl (by kernel_rfl) (by kernel_rfl) (by kernel_rfl) (by kernel_rfl) (fun _ _ _ h => h) (Or.inl ⟨by rfl, fun V hV => ?_⟩) ?_ ?_
      · obtain ⟨g1, g2, g3⟩ := hV
        go_simp
      · exact HSV.out _ (Below.refl _ wr).drew
      conv => arg 9; simp [Act.put]
      refine wpAnyR_take (i := 4) (v := .slice (some ⟨p, 0, none⟩) m m) rfl (by kernel_rfl) (by kernel_rfl) (by kernel_rfl) (by kernel_rfl) (fun _ _ _ h => h) (Or.inl ⟨by rfl, fun V hV => ?_⟩) ?_ ?_
      · obtain ⟨g1, g2, g3⟩ := hV
        go_simp
      · exact HSV.out _ (Below.refl _ wr).drew
      conv => arg 9; simp [Act.put]
      refine wpAnyR_take (i := 5) (v := .int .i64 (k : Nat)) rfl (by kernel_rfl) (by kernel_rfl) (by kernel_rfl) (by kernel_rfl) (fun _ _ _ h => h) (Or.inl ⟨by rfl, fun V hV => ?_⟩) ?_ ?_
      · obtain ⟨g1, g2, g3⟩ := hV
        go_simp
      · exact HSV.out _ (Below.refl _ wr).drew
      conv => arg 9; simp [Act.put]
      refine wpAnyR_take (i := 6) (v := .int .i64 (m : Nat)) rfl (by kernel_rfl) (by kernel_rfl) (by kernel_rfl) (by kernel_rfl) (fun _ _ _ h => h) (Or.inl ⟨by rfl, fun V hV => ?_⟩) ?_ ?_
      · obtain ⟨g1, g2, g3⟩ := hV
        go_simp
      · exact HSV.out _ (Below.refl _ wr).drew
      conv => arg 9; simp [Act.put]
      refine wpAnyR_take (i := 7) (v := .int .i64 (c : Nat)) rfl (by kernel_rfl) (by kernel_rfl) (by kernel_rfl) (by kernel_rfl) (fun _ _ _ h => h) (Or.inl ⟨by rfl, fun V hV => ?_⟩) ?_ ?_
      · obtain ⟨g1, g2, g3⟩ := hV
        go_simp
      · exact HSV.out _ (Below.refl _ wr).drew
      conv => arg 9; simp [Act.put]
      refine wpAnyR_take (i := 8) (v := .pointer (some ⟨p, c, none⟩)) rfl (by kernel_rfl) (by kernel_rfl) (by kernel_rfl) (by kernel_rfl) (fun _ _ _ h => h) (Or.inl ⟨by rfl, fun V hV => ?_⟩) ?_ ?_
      · obtain ⟨g1, g2, g3⟩ := hV
        go_simp
      · exact HSV.out _ (Below.refl _ wr).drew
      conv => arg 9; simp [Act.put]
      refine wpAnyR_take (i := 9) (v := .int .i64 wv) rfl (by kernel_rfl) (by kernel_rfl) (by kernel_rfl) (by kernel_rfl) (fun _ _ _ h => h) (Or.inl ⟨by rfl, fun V hV => ?_⟩) ?_ ?_
      · obtain ⟨g1, g2, g3⟩ := hV
        go_simp
      · exact HSV.out _ (Below.refl _ wr).drew
      conv => arg 9; simp [Act.put]
      refine wpAnyR_take (i := 10) (v := .pointer (some ⟨w.heap.size, 1, none⟩)) rfl (by kernel_rfl) (by kernel_rfl) (by kernel_rfl) (by kernel_rfl) (fun _ _ _ h => h) (Or.inl ⟨by rfl, fun V hV => ?_⟩) ?_ ?_
      · obtain ⟨g1, g2, g3⟩ := hV
        go_simp
      · exact HSV.out _ (Below.refl _ wr).drew
      conv => arg 9; simp [Act.put]
      refine wpAnyR_take (i := 11) (v := .slice (some ⟨ba, oa, none⟩) an ac) rfl (by kernel_rfl) (by kernel_rfl) (by kernel_rfl) (by kernel_rfl) (fun _ _ _ h => h) (Or.inl ⟨by rfl, fun V hV => ?_⟩) ?_ ?_
      · obtain ⟨g1, g2, g3⟩ := hV
        go_simp
      · exact HSV.out _ (Below.refl _ wr).drew
      conv => arg 9; simp [Act.put]
      refine wpAnyR_take (i := 12) (v := .int .i64 (k : Nat)) rfl (by kernel_rfl) (by kernel_rfl) (by kernel_rfl) (by kernel_rfl) (fun _ _ _ h => h) (Or.inl ⟨by rfl, fun V hV => ?_⟩) ?_ ?_
      · obtain ⟨g1, g2, g3⟩ := hV
        go_simp
      · exact HSV.out _ (Below.refl _ wr).drew
      conv => arg 9; simp [Act.put]
      refine wpAnyR_take (i := 13) (v := .pointer (some ⟨ba, oa + k, none⟩)) rfl (by kernel_rfl) (by kernel_rfl) (by kernel_rfl) (by kernel_rfl) (fun _ _ _ h => h) (Or.inl ⟨by rfl, fun V hV => ?_⟩) ?_ ?_
      · obtain ⟨g1, g2, g3⟩ := hV
        go_simp
      · exact HSV.out _ (Below.refl _ wr).drew
      conv => arg 9; simp [Act.put]
      refine wpAnyR_take (i := 14) (v := .int .i64 (nth A k)) rfl (by kernel_rfl) (by kernel_rfl) (by kernel_rfl) (by kernel_rfl) (fun _ _ _ h => h) (Or.inl ⟨by rfl, fun V hV => ?_⟩) ?_ ?_
      · obtain ⟨g1, g2, g3⟩ := hV
        go_simp
      · exact HSV.out _ (Below.refl _ wr).drew
      conv => arg 9; simp [Act.put]
      have D1 : Below wr.heap.size wr wr.drew := (Below.refl _ wr).drew
      refine wpAnyR_one (i := 15) (by kernel_rfl) rfl (fun K hK => ?_)
      go_simp
      go_at_call 31
      with_reducible refine (number10_any (nth A k) _ hz.1 hz.2 (BX.out _ (KV.trans (D1.mono KV.size))).2.2).mono ?_
      rintro e w2 ⟨rfl, b2⟩
      refine hK _ _ ⟨fun _ => HSV.out _ (D1.trans b2), ?_⟩
      clear hK
      (try (conv => arg 9; simp [Act.put]))
      have B2 := D1.trans b2
      have R2 := (B2.block p hpl).trans RV
      have f2 := frozen_of_row w2 p c _ _ R2
      obtain ⟨q1, q2, q3⟩ := HSV.out _ B2
      refine wpAnyR_one (i := 16) (by kernel_rfl) rfl (fun K hK => ?_)
      go_simp
      refine hK _ _ ⟨fun _ => HSV.out _ B2, ?_⟩
      clear hK
      (try (conv => arg 9; simp [Act.put]))
      refine wpAnyR_one (i := 17) (by kernel_rfl) rfl (fun K hK => ?_)
      go_simp
      refine hK _ _ ⟨fun _ => HSV.out _ B2, ?_⟩
      clear hK
      (try (conv => arg 9; simp [Act.put]))
      refine wpAnyR_one (i := 18) (by kernel_rfl) rfl (fun K hK => ?_)
      go_simp
      refine hK _ _ ⟨fun _ => HSV.out _ B2, ?_⟩
      clear hK
      (try (conv => arg 9; simp [Act.put]))
      refine wpAnyR_one (i := 19) (by kernel_rfl) rfl (fun K hK => ?_)
      go_simp
      refine hK _ _ ⟨fun h => absurd h (by decide), ?_⟩
      clear hK
      (try (conv => arg 9; simp [Act.put]))
      refine wpAnyR_done (by kernel_rfl) ?_ _
      go_wp2
      go_roundw
      case rel =>
        refine ⟨k + 1, by omega, by go_num, (KV.trans (B2.mono KV.size)).setCell (p := ⟨p, c, none⟩) (Nat.le_of_lt hpw) _, (heap_setCell_other w2 ⟨p, c, none⟩ w.heap.size _ (by show w.heap.size ≠ p; omega)).trans ((B2.block w.heap.size hbl).trans ZV), ?_⟩
        rw [heap_setCell_same w2 p c _ _ _ R2]
        have e : widK S A m (k + 1) = (widK S A m k).set c (max wv ((wrt (nth A k)).length : Int)) := by
          show (widK S A m k).set (colN S k) (max (nth (widK S A m k) (colN S k)) ((wrt (nth A k)).length : Int)) = _
          rw [hcol.out, HW.out]
        rw [e, List.map_set]
        simp
      case measure => simp [intOf]; omega
    · obtain rfl : k = an := by omega
      obtain ⟨v0, v1, _, _⟩ := box2 ZV
      have hpl : p < wr.heap.size := (Array.getElem?_eq_some_iff.1 RV).1
      have hbl : w.heap.size < wr.heap.size := (Array.getElem?_eq_some_iff.1 ZV).1
      go_wp2
      obtain ⟨U, hU⟩ : ∃ U, U = wr := ⟨_, rfl⟩
      subst hU
      have FU : Hid (∀ V, Below U.heap.size U V → V.cell? ⟨w.heap.size, 0, none⟩ = some (.slice (some ⟨bs, os, none⟩) sn sc) ∧ V.cell? ⟨w.heap.size, 1, none⟩ = some (.slice (some ⟨ba, oa, none⟩) k ac) ∧ (∀ c, c < m → V.cell? ⟨p, c, none⟩ = some (.int .i64 (nth (widK S A m k) c))) ∧ (∀ j, j < k → V.cell? ⟨ba, oa + j, none⟩ = some (.int .i64 (nth A j))) ∧ (∀ j, j < sn → V.cell? ⟨bs, os + j, none⟩ = some (.int .i64 (nth S j))) ∧ Tb V) := fun V j => by
        have KV' := KV.trans (j.mono KV.size)
        refine ⟨(j.cell (p := ⟨w.heap.size, _, none⟩) hbl).trans v0, (j.cell (p := ⟨w.heap.size, _, none⟩) hbl).trans v1, fun c hc => (j.cell (p := ⟨p, _, none⟩) hpl).trans ((cell_of_row U p c _ _ (0, 0) RV).trans (row_cell (by rw [widK_len]; exact hc))), HCA.out V KV', HCS.out V KV', (BX.out V KV').2.2⟩
      have KU : Hid (Below w.heap.size w U) := KV
      have hUs := KV.size
      obtain ⟨N, hN⟩ : ∃ N, N = k := ⟨_, rfl⟩
      subst hN
      clear KV ZV RV v0 v1 HCA HCS BX hpl hbl hpw hlt
      go_loopw [8, 9] (fun b i V => ∃ (k : Nat) (bo : Option Addr) (bn bc : Nat), k ≤ N ∧ i = .int .i64 (k : Nat) ∧ b = .slice bo bn bc ∧ Br V U.heap.size bo bn bc (txK S A m N k) ∧ Below U.heap.size U V) (fun _ i _ => N - (intOf i).toNat)
      case atStart => exact ⟨0, none, 0, 0, Nat.zero_le _, rfl, rfl, Br.nil _ _, Below.refl _ _⟩
      case round =>
        obtain ⟨k, bo, bn, bc, hk, rfl, rfl, hB, hb⟩ := hrel
        obtain ⟨v0, v1, vw, va, vs, tv⟩ := FU.out wr hb
        have hbn : bn ≤ 51 * 4096 := by
          have h1 := txK_len S A m N H64.out (by rw [HS.out]; exact s8) k
          rw [hB.1] at h1; omega
        by_cases hlt : k < N
        · obtain ⟨c, hcm⟩ : ∃ c, c = k % m := ⟨_, rfl⟩
          have hcl : c < m := by rw [hcm]; exact Nat.mod_lt _ (by omega)
          have hcol : Hid (colN S k = c) := by show _ = _; rw [hcm]; exact col_rem HS.out (by omega) HMM.out
          have hz := H64.out (nth A k) (by rw [nth]; rw [List.getD_eq_getElem?_getD, List.getElem?_eq_getElem (by rw [HA.out]; exact hlt)]; exact List.getElem_mem _)
          have hwl := wr_len (nth A k) hz.1 hz.2
          have hwn := widK_nn S A m H64.out N c
          have hkp : (k : Int) < pr S := by have := HP.out; omega
          have hhas := widK_has S A m N k hlt (by rw [hcol.out]; exact hcl)
          rw [hcol.out] at hhas
          obtain ⟨wv, hwv⟩ : ∃ wv : Nat, nth (widK S A m N) c = (wv : Int) := ⟨(nth (widK S A m N) c).toNat, by omega⟩
          rw [hwv] at hhas hwn
          have HT : Hid (pceT S A m N k = (if k = 0 then [] else btw (digs S k)) ++ List.replicate (wv - (wrt (nth A k)).length) 32 ++ wrt (nth A k)) := by
            show _ = _
            unfold pceT
            rw [hcol.out, hwv]
            rfl
          have HW : Hid (nth (widK S A m N) c = (wv : Int)) := hwv
          have hsub : (wv : Int) - ((wrt (nth A k)).length : Int) = ((wv - (wrt (nth A k)).length : Nat) : Int) := by omega
          have wsub : IntKind.i64.wrap ((wv : Int) - ((wrt (nth A k)).length : Int)) = ((wv - (wrt (nth A k)).length : Nat) : Int) := by rw [IntKind.wrap_i64]; omega
          have hrem : Int.tmod (k : Int) (m : Int) = (c : Int) := by rw [hcm, Int.ofNat_tmod]
          have hmz : ((m : Int) == 0) = false := by simp; omega
          have hmz' : ¬ (m : Int) = 0 := by omega
          have hm0 : ¬ m = 0 := by omega
          have hwc : IntKind.i64.wrap (c : Int) = (c : Int) := by rw [IntKind.wrap_i64]; omega
          have HTZ : Hid (c = 0 ↔ 1 ≤ trz (digs S k)) := by
            have htz := rem_col HM.out hkp HS.out (by omega) HMM.out
            rw [← hcm] at htz
            exact htz
          have HC : Hid (c = k % m) := hcm
          have ca := va k hlt
          clear hcm hwv
          by_cases h0 : k = 0
          · subst h0
            obtain rfl : c = 0 := by rw [HC.out]; exact Nat.zero_mod m
            have hmi : (0 : Int) < (m : Int) := by omega
            have hmi2 : ¬ (m : Int) ≤ 0 := by omega
            have hmi3 : ((0 : Nat) : Int) < (m : Int) := by omega
            have hmn : ¬ m ≤ 0 := by omega
            have HT' : Hid (txK S A m N (0 + 1) = txK S A m N 0 ++ List.replicate (wv - (wrt (nth A 0)).length) 32 ++ wrt (nth A 0)) := by show _ = _; show txK S A m N 0 ++ pceT S A m N 0 = _; rw [HT.out, if_pos rfl]; simp
            have t0 : decide ((0 : Int) < ((0 : Nat) : Int)) = false := by simp
            have cN := number10_any (nth A 0) wr hz.1 hz.2 (FU.out _ hb).2.2.2.2.2
            go_wp2_with (first
              | (go_at_call 31; (with_reducible refine cN.mono ?_); rintro e w5 ⟨rfl, b5⟩; have B5 := hB.below b5 (Nat.le_refl _); have K5 := hb.trans (b5.mono hb.size); obtain ⟨x0, x1, xw, xa, xs, xt⟩ := FU.out w5 K5; have cw := xw 0 hcl; rw [HW.out] at cw; have cR := Tryz.strings_Repeat ⟨#[32]⟩ (wv - (wrt (nth A 0)).length) w5 (by omega) (by show 1 * _ ≤ _; omega); rw [show Lib.repeatL (⟨#[32]⟩ : ByteArray).data.toList (wv - (wrt (nth A 0)).length) = List.replicate (wv - (wrt (nth A 0)).length) 32 from rep_is 32 _] at cR; clear xw xa xs)
              | (go_at_call 32; (with_reducible refine cR.mono ?_); rintro e w6 ⟨rfl, b6⟩; have B6 := B5.below b6 (Nat.le_refl _); have K6 := K5.trans (b6.mono K5.size))
              | (at_builtin; refine wpList_appS rfl _ _ rfl U.heap.size (bn + (wv - (wrt (nth A 0)).length)) _ _ _ _ (List.replicate (wv - (wrt (nth A 0)).length) 32) rfl (by first | rfl | simp) (by rw [List.length_replicate]) B6 (by rw [List.length_replicate]; omega) K6.size ?_; intro o7 c7 w7 B7 j7; have K7 := K6.trans j7)
              | (at_builtin; refine wpList_appS rfl _ _ rfl U.heap.size (bn + (wv - (wrt (nth A 0)).length) + (wrt (nth A 0)).length) _ _ _ _ _ rfl rfl rfl B7 (by omega) K7.size ?_; intro o8 c8 w8 B8 j8))
            go_roundw
            case rel => exact ⟨0 + 1, o8, _, c8, by omega, by go_num, rfl, (by rw [HT'.out]; exact B8), K7.trans j8⟩
            case measure => simp [intOf]; omega
          · have t0 : decide ((0 : Int) < (k : Int)) = true := by simp; omega
            have t0n : 0 < k := by omega
            by_cases hc0 : c = 0
            · have H1 : Hid (1 ≤ trz (digs S k)) := HTZ.out.1 hc0
              have htl := trz_lt HM.out hkp (by omega)
              obtain ⟨t, ht⟩ : ∃ t, t = trz (digs S k) := ⟨_, rfl⟩
              have HT' : Hid (txK S A m N (k + 1) = txK S A m N k ++ List.replicate t 10 ++ List.replicate (wv - (wrt (nth A k)).length) 32 ++ wrt (nth A k)) := by
                show _ = _
                show txK S A m N k ++ pceT S A m N k = _
                rw [HT.out, if_neg h0]
                unfold btw
                rw [if_neg (by have := H1.out; omega), ← ht]
                simp
              have hrt : ∀ J, J ≤ S.length → (((k : Int) % pr (S.drop J) = 0) ↔ S.length - J ≤ t) := fun J hJ => by rw [ht]; exact rem_trz HM.out hkp J hJ
              rw [← ht] at H1 htl
              rw [HS.out] at htl hrt
              have HTL : Hid (t < sn ∧ sn ≤ 8) := ⟨htl, s8⟩
              have hrt : Hid (∀ J, J ≤ sn → (((k : Int) % pr (S.drop J) = 0) ↔ sn - J ≤ t)) := hrt
              have hap := allPos_of HM.out (Int.natCast_nonneg k) hkp
              have HAP : Hid (∀ J, J ≤ sn → 1 ≤ pr (S.drop J) ∧ pr (S.drop J) ≤ 4096) := fun J hJ => by
                refine ⟨drop_pos' hap J (by rw [HS.out]; exact hJ), ?_⟩
                have h1 := pr_le HM.out
                have h2 := List.take_append_drop J S
                have h3 : 1 ≤ pr (S.take J) := by
                  rcases Int.lt_or_le 0 (pr (S.take J)) with c | c
                  · omega
                  · exfalso
                    have q : pr S = pr (S.take J) * pr (S.drop J) := by
                      conv => lhs; rw [← h2]
                      exact pr_app _ _
                    have : pr (S.take J) * pr (S.drop J) ≤ 0 := Int.mul_nonpos_of_nonpos_of_nonneg c (by have := drop_pos' hap J (by rw [HS.out]; exact hJ); omega)
                    omega
                have q : pr S = pr (S.take J) * pr (S.drop J) := by
                  conv => lhs; rw [← h2]
                  exact pr_app _ _
                have := Int.mul_le_mul_of_nonneg_right h3 (show 0 ≤ pr (S.drop J) by have := drop_pos' hap J (by rw [HS.out]; exact hJ); omega)
                omega
              have HZ : Hid (∀ J, J < sn → 1 ≤ nth S J) := fun J hJ => by have := hap J (by rw [HS.out]; exact hJ); omega
              have HPD : Hid (∀ J, J < sn → pr (S.drop (J + 1)) * nth S J = pr (S.drop J)) := fun J hJ => by
                have e := pr_drop (zs := S) (k := J) (by rw [HS.out]; exact hJ)
                rw [e, Int.mul_comm]
              have HLast : Hid (pr (S.drop (sn - 1)) = (m : Int)) := by
                show _ = _
                rw [pr_drop (by rw [HS.out]; omega), List.drop_of_length_le (by rw [HS.out]; omega), HMM.out, show pr ([] : List Int) = 1 from rfl, Int.mul_one]
              subst hc0
              have hmn : ¬ m ≤ 0 := by omega
              have ka := box_below wr (.cells #[.int .u8 10] 5)
              have ra : (wr.alloc (.cells #[.int .u8 10] 5)).cell? ⟨wr.heap.size, 0, none⟩ = some (.int .u8 ((10 : UInt8).toNat : Nat)) := (cell_of_row _ wr.heap.size 0 _ _ (0, 0) (allocNew wr (.cells #[.int .u8 10] 5))).trans rfl
              have BA := hB.below ka (Nat.le_refl _)
              have KA := hb.trans (ka.mono hb.size)
              have wk2 : IntKind.i64.wrap ((sn : Int) - 2) = ((sn - 2 : Nat) : Int) := by rw [IntKind.wrap_i64]; omega
              have ek2 : (sn : Int) - 2 = ((sn - 2 : Nat) : Int) := by omega
              clear ka hap ht hkp htl hhas
              go_wp2_with (at_builtin; refine wpList_appB rfl _ _ rfl U.heap.size (bn + 1) _ _ _ wr.heap.size _ 10 rfl rfl rfl BA ra (by omega) KA.size ?_; intro o1 c1 V1 B1 j1)
              have K1 := KA.trans j1
              clear v0 v1 vw va vs tv ca hB hb BA ra KA hbn
              have B1' : Br V1 U.heap.size o1 (bn + 1) c1 (txK S A m N k ++ List.replicate (min t (sn - 1 - (sn - 2))) 10) := by
                rw [show sn - 1 - (sn - 2) = 1 from by omega, Nat.min_eq_right H1]; exact B1
              have HBN : Hid (∀ V bo bn bc d, Br V U.heap.size bo bn bc (txK S A m N k ++ List.replicate (min t d) 10) → bn ≤ 51 * 4096 + 8) := fun V bo bn bc d h => by
                have h1 := txK_len S A m N H64.out (by rw [HS.out]; exact s8) k
                have h2 := h.1
                rw [List.length_append, List.length_replicate] at h2
                have : min t d ≤ t := Nat.min_le_left _ _
                have := HTL.out
                omega
              clear B1
              go_loopw [8, 10, 11] (fun b ov j V => ∃ (J : Nat) (bo : Option Addr) (bn bc : Nat), J ≤ sn - 2 ∧ j = .int .i64 (J : Nat) ∧ ov = .int .i64 (pr (S.drop (J + 1))) ∧ b = .slice bo bn bc ∧ Br V U.heap.size bo bn bc (txK S A m N k ++ List.replicate (min t (sn - 1 - J)) 10) ∧ Below U.heap.size U V) (fun _ _ j _ => (intOf j).toNat)
              case atStart => exact ⟨sn - 2, o1, bn + 1, c1, Nat.le_refl _, rfl, by rw [show sn - 2 + 1 = sn - 1 from by omega, HLast.out], rfl, B1', K1⟩
              case round =>
                obtain ⟨J, bo, bn, bc, hJ, rfl, rfl, rfl, hB, hb⟩ := hrel
                have hbn := HBN.out _ _ _ _ _ hB
                obtain ⟨v0, v1, vw, va, vs, tv⟩ := FU.out wr hb
                clear B1' K1
                by_cases hJ1 : 1 ≤ J
                · have cJ := vs J (by omega)
                  have hz1 := HZ.out J (by omega)
                  have hPD := HPD.out J (by omega)
                  have hb0 := HAP.out J (by omega)
                  have hb1 := HAP.out (J + 1) (by omega)
                  have hr0 := hrt.out J (by omega)
                  obtain ⟨P, hP⟩ : ∃ P, P = pr (S.drop J) := ⟨_, rfl⟩
                  obtain ⟨P1, hP1⟩ : ∃ P1, P1 = pr (S.drop (J + 1)) := ⟨_, rfl⟩
                  obtain ⟨z, hzz⟩ : ∃ z, z = nth S J := ⟨_, rfl⟩
                  rw [← hP] at hPD hb0 hr0
                  rw [← hP1] at hPD hb1 ⊢
                  rw [← hzz] at hPD hz1 cJ
                  have wP : IntKind.i64.wrap P = P := by rw [IntKind.wrap_i64]; omega
                  have wP1 : IntKind.i64.wrap (P1 * z) = P := by rw [hPD]; exact wP
                  have hPz : (P == 0) = false := by simp; omega
                  have hPz' : ¬ P = 0 := by omega
                  obtain ⟨r, hr⟩ : ∃ r, r = (k : Int) % P := ⟨_, rfl⟩
                  have hrb : 0 ≤ r ∧ r ≤ 4096 := by
                    rw [hr]
                    have h1 := Int.emod_nonneg (k : Int) hPz'
                    have h2 := Int.emod_lt_of_pos (k : Int) (show 0 < P by omega)
                    omega
                  have hrm : Int.tmod (k : Int) P = r := by rw [hr]; exact Int.tmod_eq_emod_of_nonneg (by omega)
                  have wr' : IntKind.i64.wrap r = r := by rw [IntKind.wrap_i64]; omega
                  have HR0 : Hid (r = 0 ↔ sn - J ≤ t) := by rw [hr]; exact hr0
                  have HPP : Hid (P = pr (S.drop J)) := hP
                  have HPD' : Hid (P1 * z = P) := hPD
                  have tJ : decide ((0 : Int) < (J : Int)) = true := by simp; omega
                  have tJn : 0 < J := hJ1
                  have wJ : IntKind.i64.wrap ((J : Int) - 1) = ((J - 1 : Nat) : Int) := by rw [IntKind.wrap_i64]; omega
                  have eJ : (J : Int) - 1 = ((J - 1 : Nat) : Int) := by omega
                  have hsJ : sn - 1 - (J - 1) = (sn - 1 - J) + 1 := by omega
                  have HNL : Hid (List.replicate (min t (sn - 1 - (J - 1))) (10 : UInt8) = if sn - J ≤ t then List.replicate (min t (sn - 1 - J)) 10 ++ [10] else List.replicate (min t (sn - 1 - J)) 10) := by
                    show _ = _
                    rw [hsJ, nl_snoc, show sn - 1 - J + 1 = sn - J from by omega]
                  have HO : Hid (pr (S.drop (J - 1 + 1)) = P) := by show _ = _; rw [show J - 1 + 1 = J from by omega]; exact hP.symm
                  clear hP hP1 hzz hr hr0 hPD vw va hsJ
                  by_cases hr1 : r = 0
                  · have tr : (r == 0) = true := by simpa using hr1
                    have HNL' : Hid (List.replicate (min t (sn - 1 - (J - 1))) (10 : UInt8) = List.replicate (min t (sn - 1 - J)) 10 ++ [10]) := by show _ = _; rw [HNL.out, if_pos (HR0.out.1 hr1)]
                    subst hr1
                    have ka := box_below wr (.cells #[.int .u8 10] 5)
                    have ra : (wr.alloc (.cells #[.int .u8 10] 5)).cell? ⟨wr.heap.size, 0, none⟩ = some (.int .u8 ((10 : UInt8).toNat : Nat)) := (cell_of_row _ wr.heap.size 0 _ _ (0, 0) (allocNew wr (.cells #[.int .u8 10] 5))).trans rfl
                    have BA := hB.below ka (Nat.le_refl _)
                    have KA := hb.trans (ka.mono hb.size)
                    clear ka
                    go_wp2_with (at_builtin; refine wpList_appB rfl _ _ rfl U.heap.size (bn + 1) _ _ _ wr.heap.size _ 10 rfl rfl rfl BA ra (by omega) KA.size ?_; intro o1 c1 V1 B1 j1)
                    go_roundw
                    case rel => exact ⟨J - 1, o1, bn + 1, c1, by omega, by go_num, by rw [HO.out], rfl, (by rw [HNL'.out, ← List.append_assoc]; exact B1), KA.trans j1⟩
                    case measure => simp [intOf] <;> omega
                  · have tr : (r == 0) = false := by simpa using hr1
                    have HNL' : Hid (List.replicate (min t (sn - 1 - (J - 1))) (10 : UInt8) = List.replicate (min t (sn - 1 - J)) 10) := by show _ = _; rw [HNL.out, if_neg (fun e => hr1 (HR0.out.2 e))]
                    clear hr1
                    go_wp2
                    go_roundw
                    case rel => exact ⟨J - 1, bo, bn, bc, by omega, by go_num, by rw [HO.out], rfl, (by rw [HNL'.out]; exact hB), hb⟩
                    case measure => simp [intOf] <;> omega
                · obtain rfl : J = 0 := by omega
                  rw [show min t (sn - 1 - 0) = t from by have := HTL.out; omega] at hB
                  have ca := va k hlt
                  clear vw va vs
                  have cN := number10_any (nth A k) wr hz.1 hz.2 (FU.out _ hb).2.2.2.2.2
                  go_wp2_with (first
                    | (go_at_call 31; (with_reducible refine cN.mono ?_); rintro e w5 ⟨rfl, b5⟩; have B5 := hB.below b5 (Nat.le_refl _); have K5 := hb.trans (b5.mono hb.size); obtain ⟨x0, x1, xw, xa, xs, xt⟩ := FU.out w5 K5; have cw := xw 0 hcl; rw [HW.out] at cw; have cR := Tryz.strings_Repeat ⟨#[32]⟩ (wv - (wrt (nth A k)).length) w5 (by omega) (by show 1 * _ ≤ _; omega); rw [show Lib.repeatL (⟨#[32]⟩ : ByteArray).data.toList (wv - (wrt (nth A k)).length) = List.replicate (wv - (wrt (nth A k)).length) 32 from rep_is 32 _] at cR; clear xw xa xs)
                    | (go_at_call 32; (with_reducible refine cR.mono ?_); rintro e w6 ⟨rfl, b6⟩; have B6 := B5.below b6 (Nat.le_refl _); have K6 := K5.trans (b6.mono K5.size))
                    | (at_builtin; refine wpList_appS rfl _ _ rfl U.heap.size (bn + (wv - (wrt (nth A k)).length)) _ _ _ _ (List.replicate (wv - (wrt (nth A k)).length) 32) rfl (by first | rfl | simp) (by rw [List.length_replicate]) B6 (by rw [List.length_replicate]; omega) K6.size ?_; intro o7 c7 w7 B7 j7; have K7 := K6.trans j7)
                    | (at_builtin; refine wpList_appS rfl _ _ rfl U.heap.size (bn + (wv - (wrt (nth A k)).length) + (wrt (nth A k)).length) _ _ _ _ _ rfl rfl rfl B7 (by omega) K7.size ?_; intro o8 c8 w8 B8 j8))
                  go_roundw
                  case rel => exact ⟨k + 1, o8, _, c8, by omega, by go_num, rfl, (by rw [HT'.out]; exact B8), K7.trans j8⟩
                  case measure => simp [intOf]; omega
            · have HT' : Hid (txK S A m N (k + 1) = txK S A m N k ++ [32] ++ List.replicate (wv - (wrt (nth A k)).length) 32 ++ wrt (nth A k)) := by
                show _ = _
                show txK S A m N k ++ pceT S A m N k = _
                have : trz (digs S k) = 0 := by
                  rcases Nat.eq_zero_or_pos (trz (digs S k)) with e | e
                  · exact e
                  · exact absurd (HTZ.out.2 e) hc0
                rw [HT.out, if_neg h0]
                unfold btw
                rw [if_pos this]
                simp
              have tc : decide ((0 : Int) < (c : Int)) = true := by simp; omega
              have tcn : 0 < c := by omega
              have tc2 : ((c : Int) == 0) = false := by simp; omega
              have ka := box_below wr (.cells #[.int .u8 32] 5)
              have ra : (wr.alloc (.cells #[.int .u8 32] 5)).cell? ⟨wr.heap.size, 0, none⟩ = some (.int .u8 ((32 : UInt8).toNat : Nat)) := (cell_of_row _ wr.heap.size 0 _ _ (0, 0) (allocNew wr (.cells #[.int .u8 32] 5))).trans rfl
              have BA := hB.below ka (Nat.le_refl _)
              have KA := hb.trans (ka.mono hb.size)
              clear ka ca vw va vs
              go_upto_region 27 with (at_builtin; refine wpList_appB rfl _ _ rfl U.heap.size (bn + 1) _ _ _ wr.heap.size _ 32 rfl rfl rfl BA ra (by omega) KA.size ?_; intro o1 c1 V1 B1 j1)
              have K1 := KA.trans j1
              obtain ⟨v0, v1, vw, va, vs, tv⟩ := FU.out V1 K1
              have ca := va k hlt
              have cN := number10_any (nth A k) V1 hz.1 hz.2 (FU.out _ K1).2.2.2.2.2
              go_wp2_with (first
                | (go_at_call 31; (with_reducible refine cN.mono ?_); rintro e w5 ⟨rfl, b5⟩; have B5 := B1.below b5 (Nat.le_refl _); have K5 := K1.trans (b5.mono K1.size); obtain ⟨x0, x1, xw, xa, xs, xt⟩ := FU.out w5 K5; have cw := xw c hcl; rw [HW.out] at cw; have cR := Tryz.strings_Repeat ⟨#[32]⟩ (wv - (wrt (nth A k)).length) w5 (by omega) (by show 1 * _ ≤ _; omega); rw [show Lib.repeatL (⟨#[32]⟩ : ByteArray).data.toList (wv - (wrt (nth A k)).length) = List.replicate (wv - (wrt (nth A k)).length) 32 from rep_is 32 _] at cR; clear xw xa xs)
                | (go_at_call 32; (with_reducible refine cR.mono ?_); rintro e w6 ⟨rfl, b6⟩; have B6 := B5.below b6 (Nat.le_refl _); have K6 := K5.trans (b6.mono K5.size))
                | (at_builtin; refine wpList_appS rfl _ _ rfl U.heap.size ((bn + 1) + (wv - (wrt (nth A k)).length)) _ _ _ _ (List.replicate (wv - (wrt (nth A k)).length) 32) rfl (by first | rfl | simp) (by rw [List.length_replicate]) B6 (by rw [List.length_replicate]; omega) K6.size ?_; intro o7 c7 w7 B7 j7; have K7 := K6.trans j7)
                | (at_builtin; refine wpList_appS rfl _ _ rfl U.heap.size ((bn + 1) + (wv - (wrt (nth A k)).length) + (wrt (nth A k)).length) _ _ _ _ _ rfl rfl rfl B7 (by omega) K7.size ?_; intro o8 c8 w8 B8 j8))
              go_roundw
              case rel => exact ⟨k + 1, o8, _, c8, by omega, by go_num, rfl, (by rw [HT'.out]; exact B8), K7.trans j8⟩
              case measure => simp [intOf]; omega
        · obtain rfl : k = N := by omega
          have cv := conv_row hB
          have hnl : ¬ (k : Int) < (k : Int) := by omega
          go_wp2
          go_ret2
          exact ⟨ret_pair rfl, KU.out.trans (hb.mono hUs)⟩
end Go.Proofs.YtppcfpiihkaopaaGreatDoor
