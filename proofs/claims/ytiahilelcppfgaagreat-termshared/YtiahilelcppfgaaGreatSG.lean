
/- deep and Eq: a term read twice is the same. -/

import Derived.Test.YtiahilelcppfgaaGreatSF

namespace Go.Proofs.YtiahilelcppfgaaGreat

open Go.RowKit

set_option linter.unusedVariables false

def DeP (nd : Nat) (pl lf : Nat) (w : World) (e : Ending) (w' : World) : Prop := e = .returned (.bool true) ∧ Chg (fun b => b = pl) w w' ∧ Boxed w' pl 3 (.int .i64 ((lf - nd : Nat) : Int))
set_option linter.unusedSimpArgs false in
set_option maxRecDepth 100000 in
set_option maxHeartbeats 8000000 in
theorem deep_one (d : Nat) (ks : List (Tr d)) (k n : Int) (t : ByteArray) (sh at1 : List Int) (so ao ko po qo ro : Option Addr) (sn sc an ac L kc pc qc rc1 pl lf D0 : Nat) (w0 w : World) (hw : Below w0.heap.size w0 w) (hL : ks.length = L) (hpl : w0.heap.size ≤ pl) (hbx : Boxed w pl 3 (.int .i64 (lf : Nat)))
    (a1 : Rd w0 so sn sh) (a2 : Rd w0 ao an at1) (a3 : Kq (Tv w0 d) w0 ko ks) (b1 : Rd w0 po sn sh) (b2 : Rd w0 qo an at1) (b3 : Kq (Tv w0 d) w0 ro ks) (hD : D0 ≤ 255) (hd : 1 + pmax (fun i => (ks[i]?).elim 0 (dep d)) L ≤ D0 + 1) (hn : 1 + psum (fun i => (ks[i]?).elim 0 (nds d)) L ≤ lf) (hlf : lf ≤ 4096)
    (ih : ∀ (y : Tr d) (c0 c1 c2 c3 c4 c5 e0 e1 e2 e3 e4 e5 : Value) (lf D0 : Nat) (V : World), Tv w0 d y [c0, c1, c2, c3, c4, c5] → Tv w0 d y [e0, e1, e2, e3, e4, e5] → Below w0.heap.size w0 V → Boxed V pl 3 (.int .i64 (lf : Nat)) → D0 ≤ 255 → dep d y ≤ D0 + 1 → nds d y ≤ lf → lf ≤ 4096 → Calls Tryz.prog 46 #[.agg #[c0, c1, c2, c3, c4, c5], .agg #[e0, e1, e2, e3, e4, e5], .int .i64 (D0 : Nat), .pointer (some ⟨pl, 0, none⟩)] V fun e w' => DeP (nds d y) pl lf V e w') :
    Calls Tryz.prog 46 #[.agg #[.int .i64 k, .string t, .int .i64 n, .slice so sn sc, .slice ao an ac, .slice ko L kc], .agg #[.int .i64 k, .string t, .int .i64 n, .slice po sn pc, .slice qo an qc, .slice ro L rc1], .int .i64 (D0 : Nat), .pointer (some ⟨pl, 0, none⟩)] w fun e w' => DeP (1 + psum (fun i => (ks[i]?).elim 0 (nds d)) L) pl lf w e w' := by
  have k0 := box_below w (.cells #[.int .i64 k, .string t, .int .i64 n, .slice so sn sc, .slice ao an ac, .slice ko L kc] 31)
  have k1 := box_below (w.alloc (.cells #[.int .i64 k, .string t, .int .i64 n, .slice so sn sc, .slice ao an ac, .slice ko L kc] 31)) (.cells #[.int .i64 k, .string t, .int .i64 n, .slice po sn pc, .slice qo an qc, .slice ro L rc1] 31)
  have kk := k0.trans (k1.mono k0.size)
  have r0 := (k1.block w.heap.size (by simp)).trans (allocNew w (.cells #[.int .i64 k, .string t, .int .i64 n, .slice so sn sc, .slice ao an ac, .slice ko L kc] 31))
  have r1 := allocNew (w.alloc (.cells #[.int .i64 k, .string t, .int .i64 n, .slice so sn sc, .slice ao an ac, .slice ko L kc] 31)) (.cells #[.int .i64 k, .string t, .int .i64 n, .slice po sn pc, .slice qo an qc, .slice ro L rc1] 31)
  rw [World.size_alloc] at r1
  have bx1 := (hbx.alloc (.cells #[.int .i64 k, .string t, .int .i64 n, .slice so sn sc, .slice ao an ac, .slice ko L kc] 31)).alloc (.cells #[.int .i64 k, .string t, .int .i64 n, .slice po sn pc, .slice qo an qc, .slice ro L rc1] 31)
  generalize hW1 : (w.alloc (.cells #[.int .i64 k, .string t, .int .i64 n, .slice so sn sc, .slice ao an ac, .slice ko L kc] 31)).alloc (.cells #[.int .i64 k, .string t, .int .i64 n, .slice po sn pc, .slice qo an qc, .slice ro L rc1] 31) = W1 at *
  have lpl := hbx.lt
  have x0 := bx1.cell
  have x1 := bx1.frozen
  have bx2 := bx1.set (.int .i64 ((lf : Int) - 1))
  have x2 := bx2.cell
  have g2 := set1 W1 pl 0 (.int .i64 ((lf : Int) - 1))
  have R0 := (g2.block w.heap.size (Array.getElem?_eq_some_iff.1 r0).1 (fun e => by injection e with e; omega)).trans r0
  have R1 := (g2.block (w.heap.size + 1) (Array.getElem?_eq_some_iff.1 r1).1 (fun e => by injection e with e; omega)).trans r1
  have ch : Chg (fun b => b = pl) w (W1.setCell ⟨pl, 0, none⟩ (.int .i64 ((lf : Int) - 1))) := (Chg.of_below kk (Nat.le_refl _) _).trans ((Chg.of_grown g2).mono fun b _ e => by injection e with e; exact e.symm)
  have w1 : IntKind.i64.wrap ((lf : Int) - 1) = (lf : Int) - 1 := wrT (by omega) (by omega)
  have t1 : decide ((D0 : Int) < 0) = false := by simp
  have t2 : decide ((lf : Int) - 1 < 0) = false := by simp; omega
  have t3 : (t.toList == t.toList) = true := by simp
  have wd : IntKind.i64.wrap ((D0 : Int) - 1) = (D0 : Int) - 1 := wrT (by omega) (by omega)
  obtain ⟨y0, y1, y2, y3, y4, y5⟩ := box6 R0
  obtain ⟨z0, z1, z2, z3, z4, z5⟩ := box6 R1
  have hs8 := a1.room
  have ha8 := a2.room
  have hk8 := a3.room
  rw [hL] at hk8
  obtain ⟨F, hF⟩ : ∃ F : Nat → Nat, F = fun i => (ks[i]?).elim 0 (nds d) := ⟨_, rfl⟩
  obtain ⟨G, hG⟩ : ∃ G : Nat → Nat, G = fun i => (ks[i]?).elim 0 (dep d) := ⟨_, rfl⟩
  rw [← hF] at hn ⊢
  rw [← hG] at hd
  have HF : Hid (∀ i y, ks[i]? = some y → F i = nds d y ∧ G i = dep d y) := fun i y e => by rw [hF, hG]; simp [e]
  have HB : Hid (1 + pmax G L ≤ D0 + 1 ∧ 1 + psum F L ≤ lf ∧ lf ≤ 4096 ∧ D0 ≤ 255) := ⟨hd, hn, hlf, hD⟩
  have HA : Hid (Kq (Tv w0 d) w0 ko ks ∧ Kq (Tv w0 d) w0 ro ks) := ⟨a3, b3⟩
  have HIH : Hid (_) := ih
  have bV0 : Below w0.heap.size w0 (W1.setCell ⟨pl, 0, none⟩ (.int .i64 ((lf : Int) - 1))) := ch.below hw (fun b e => by omega) (Nat.le_refl _)
  clear hF hG hn hd hlf a3 b3 ih k0 k1 kk r0 r1 g2 bx1 hbx
  go_enter Tryz.func46, Tryz.ntmps46
  go_upto_region 4 with fail
  clear hW1 x0 x1 x2 w1 t1 t2 t3 y0 y1 y2 y3 y4 y5 z0 z1 z2 z3 z4 z5
  have c1 := a1.below bV0 (Nat.le_refl _)
  have c2 := a2.below bV0 (Nat.le_refl _)
  have e1 := b1.below bV0 (Nat.le_refl _)
  have e2 := b2.below bV0 (Nat.le_refl _)
  clear a1 a2 b1 b2
  generalize W1.setCell ⟨pl, 0, none⟩ (.int .i64 ((lf : Int) - 1)) = V0 at *
  go_wp2
  go_loopw [9] (fun iv V => ∃ j : Nat, j ≤ sn ∧ iv = .int .i64 (j : Nat) ∧ ∃ q, V = V0.drewN q) (fun iv _ => sn - (intOf iv).toNat)
  case atStart => exact ⟨0, Nat.zero_le _, rfl, 0, rfl⟩
  case round =>
    obtain ⟨j, hj, rfl, q, rfl⟩ := hrel
    obtain ⟨y0, y1, y2, y3, y4, y5⟩ := box6 R0
    obtain ⟨z0, z1, z2, z3, z4, z5⟩ := box6 R1
    by_cases hlt : j < sn
    · obtain ⟨b, off, rfl, hb, hc⟩ := c1.cells (by omega)
      obtain ⟨b', off', rfl, hb', hc'⟩ := e1.cells (by omega)
      have v1 := hc j hlt
      have v2 := hc' j hlt
      have t3 : decide ((j : Int) < (sn : Int)) = true := by simp; omega
      have bj : (j : Int) < (sn : Int) := by omega
      clear hc hc' c1 e1 c2 e2
      generalize nth sh j = zz at *
      have hne : (zz != zz) = false := by simp
      go_wp2
      go_quiet (fail)
      go_wp2
      go_roundw
      case rel => exact ⟨j + 1, by omega, by go_num, _, rfl⟩
      case measure => simp [intOf]; omega
    · obtain rfl : j = sn := by omega
      have t3 : decide ((j : Int) < (j : Int)) = false := by simp
      have bq : Below V0.heap.size V0 (V0.drewN q) := below_drewN (Below.refl _ _) q
      have R0' := (bq.block _ (Array.getElem?_eq_some_iff.1 R0).1).trans R0
      have R1' := (bq.block _ (Array.getElem?_eq_some_iff.1 R1).1).trans R1
      have bx2' : Boxed (V0.drewN q) pl 3 (.int .i64 ((lf : Int) - 1)) := (bq.block _ bx2.lt).trans bx2
      have c2' := c2.below bq (Nat.le_refl _)
      have e2' := e2.below bq (Nat.le_refl _)
      have ch' := ch.trans (Chg.of_below bq (Nat.le_refl _) _)
      go_upto_region 9 with fail
      clear y0 y1 y2 y3 y4 y5 z0 z1 z2 z3 z4 z5 R0 R1 bx2 c1 e1 c2 e2 ch bq bV0
      generalize V0.drewN q = V1 at *
      go_wp2
      go_loopw [10] (fun iv V => ∃ j : Nat, j ≤ an ∧ iv = .int .i64 (j : Nat) ∧ ∃ q, V = V1.drewN q) (fun iv _ => an - (intOf iv).toNat)
      case atStart => exact ⟨0, Nat.zero_le _, rfl, 0, rfl⟩
      case round =>
        obtain ⟨i, hi, rfl, q2, rfl⟩ := hrel
        obtain ⟨y0, y1, y2, y3, y4, y5⟩ := box6 R0'
        obtain ⟨z0, z1, z2, z3, z4, z5⟩ := box6 R1'
        by_cases hlt2 : i < an
        · obtain ⟨b, off, rfl, hb, hc⟩ := c2'.cells (by omega)
          obtain ⟨b', off', rfl, hb', hc'⟩ := e2'.cells (by omega)
          have v1 := hc i hlt2
          have v2 := hc' i hlt2
          have t4 : decide ((i : Int) < (an : Int)) = true := by simp; omega
          have bi : (i : Int) < (an : Int) := by omega
          clear hc hc' c2' e2'
          generalize nth at1 i = zz at *
          have hne : (zz != zz) = false := by simp
          go_wp2
          go_quiet (fail)
          go_wp2
          go_roundw
          case rel => exact ⟨i + 1, by omega, by go_num, _, rfl⟩
          case measure => simp [intOf]; omega
        · obtain rfl : i = an := by omega
          have t4 : decide ((i : Int) < (i : Int)) = false := by simp
          have bq : Below V1.heap.size V1 (V1.drewN q2) := below_drewN (Below.refl _ _) q2
          have R0 := (bq.block _ (Array.getElem?_eq_some_iff.1 R0').1).trans R0'
          have R1 := (bq.block _ (Array.getElem?_eq_some_iff.1 R1').1).trans R1'
          have bx2 : Boxed (V1.drewN q2) pl 3 (.int .i64 ((lf : Int) - 1)) := (bq.block _ bx2'.lt).trans bx2'
          have ch := ch'.trans (Chg.of_below bq (Nat.le_refl _) _)
          go_upto_region 14 with fail
          clear y0 y1 y2 y3 y4 y5 z0 z1 z2 z3 z4 z5 R0' R1' bx2' c2' e2' ch' bq
          generalize V1.drewN q2 = V2 at *
          obtain ⟨D1, hD1⟩ : ∃ D1, D1 = D0 - 1 := ⟨_, rfl⟩
          have HD1 : Hid (D1 = D0 - 1) := hD1
          clear hD1 wd
          go_wp2
          go_loopw [11] (fun iv V => ∃ m : Nat, m ≤ L ∧ iv = .int .i64 (m : Nat) ∧ Chg (fun b => b = pl) w V ∧ Boxed V pl 3 (.int .i64 ((lf - (1 + psum F m) : Nat) : Int)) ∧ V.heap[w.heap.size]? = some (.cells #[.int .i64 k, .string t, .int .i64 n, .slice so j sc, .slice ao i ac, .slice ko L kc] 31 (0, 0)) ∧ V.heap[w.heap.size + 1]? = some (.cells #[.int .i64 k, .string t, .int .i64 n, .slice po j pc, .slice qo i qc, .slice ro L rc1] 31 (0, 0))) (fun iv _ => L - (intOf iv).toNat)
          case atStart =>
            refine ⟨0, Nat.zero_le _, rfl, ch, ?_, R0, R1⟩
            have e : ((lf - (1 + psum F 0) : Nat) : Int) = (lf : Int) - 1 := by have := HB.out; show ((lf - (1 + 0) : Nat) : Int) = _; omega
            rw [e]; exact bx2
          case round =>
            obtain ⟨m, hm, rfl, C, BX, Q0, Q1⟩ := hrel
            clear R0 R1 bx2 ch
            obtain ⟨y0, y1, y2, y3, y4, y5⟩ := box6 Q0
            obtain ⟨z0, z1, z2, z3, z4, z5⟩ := box6 Q1
            by_cases hlt3 : m < L
            · have t5 : decide ((m : Int) < (L : Int)) = true := by simp; omega
              have bm : (m : Int) < (L : Int) := by omega
              obtain ⟨y, hy⟩ : ∃ y, ks[m]? = some y := ⟨ks[m]'(by omega), by simp⟩
              obtain ⟨kb, koff, rfl, hkb, hc⟩ := HA.out.1.cells (by omega)
              obtain ⟨rb, roff, rfl, hrb, hc'⟩ := HA.out.2.cells (by omega)
              obtain ⟨d0, d1, d2, d3, d4, d5, hv, p0, p1, p2, p3, p4, p5⟩ := hc m y hy
              obtain ⟨f0, f1, f2, f3, f4, f5, hv', s0, s1, s2, s3, s4, s5⟩ := hc' m y hy
              obtain ⟨k1, t1, n1, xo, xn, xc, zo, zn, zc, uo, un, uc, ev⟩ := hv.form
              injection ev with ev0 ev
              injection ev with ev1 ev
              injection ev with ev2 ev
              injection ev with ev3 ev
              injection ev with ev4 ev
              injection ev with ev5 ev
              subst ev0 ev1 ev2 ev3 ev4 ev5
              obtain ⟨k2, t2, n2, xo2, xn2, xc2, zo2, zn2, zc2, uo2, un2, uc2, ev⟩ := hv'.form
              injection ev with ev0 ev
              injection ev with ev1 ev
              injection ev with ev2 ev
              injection ev with ev3 ev
              injection ev with ev4 ev
              injection ev with ev5 ev
              subst ev0 ev1 ev2 ev3 ev4 ev5
              have HC : Hid (∀ V, Below w0.heap.size w0 V → V.heap[w.heap.size]? = some (.cells #[.int .i64 k, .string t, .int .i64 n, .slice so j sc, .slice ao i ac, .slice (some ⟨kb, koff, none⟩) L kc] 31 (0, 0)) → V.heap[w.heap.size + 1]? = some (.cells #[.int .i64 k, .string t, .int .i64 n, .slice po j pc, .slice qo i qc, .slice (some ⟨rb, roff, none⟩) L rc1] 31 (0, 0)) → V.cell? ⟨w.heap.size, 5, none⟩ = some (.slice (some ⟨kb, koff, none⟩) L kc) ∧ V.cell? ⟨w.heap.size + 1, 5, none⟩ = some (.slice (some ⟨rb, roff, none⟩) L rc1) ∧ V.cell? ⟨kb, koff + m * 6, none⟩ = some (.int .i64 k1) ∧ V.cell? ⟨kb, koff + m * 6 + 1, none⟩ = some (.string t1) ∧ V.cell? ⟨kb, koff + m * 6 + 2, none⟩ = some (.int .i64 n1) ∧ V.cell? ⟨kb, koff + m * 6 + 3, none⟩ = some (.slice xo xn xc) ∧ V.cell? ⟨kb, koff + m * 6 + 4, none⟩ = some (.slice zo zn zc) ∧ V.cell? ⟨kb, koff + m * 6 + 5, none⟩ = some (.slice uo un uc) ∧ V.cell? ⟨rb, roff + m * 6, none⟩ = some (.int .i64 k2) ∧ V.cell? ⟨rb, roff + m * 6 + 1, none⟩ = some (.string t2) ∧ V.cell? ⟨rb, roff + m * 6 + 2, none⟩ = some (.int .i64 n2) ∧ V.cell? ⟨rb, roff + m * 6 + 3, none⟩ = some (.slice xo2 xn2 xc2) ∧ V.cell? ⟨rb, roff + m * 6 + 4, none⟩ = some (.slice zo2 zn2 zc2) ∧ V.cell? ⟨rb, roff + m * 6 + 5, none⟩ = some (.slice uo2 un2 uc2)) := fun V bV h1 h2 =>
                ⟨(box6 h1).2.2.2.2.2, (box6 h2).2.2.2.2.2, (bV.cell (p := ⟨kb, koff + m * 6, none⟩) hkb).trans p0, (bV.cell (p := ⟨kb, koff + m * 6 + 1, none⟩) hkb).trans p1, (bV.cell (p := ⟨kb, koff + m * 6 + 2, none⟩) hkb).trans p2, (bV.cell (p := ⟨kb, koff + m * 6 + 3, none⟩) hkb).trans p3, (bV.cell (p := ⟨kb, koff + m * 6 + 4, none⟩) hkb).trans p4, (bV.cell (p := ⟨kb, koff + m * 6 + 5, none⟩) hkb).trans p5, (bV.cell (p := ⟨rb, roff + m * 6, none⟩) hrb).trans s0, (bV.cell (p := ⟨rb, roff + m * 6 + 1, none⟩) hrb).trans s1, (bV.cell (p := ⟨rb, roff + m * 6 + 2, none⟩) hrb).trans s2, (bV.cell (p := ⟨rb, roff + m * 6 + 3, none⟩) hrb).trans s3, (bV.cell (p := ⟨rb, roff + m * 6 + 4, none⟩) hrb).trans s4, (bV.cell (p := ⟨rb, roff + m * 6 + 5, none⟩) hrb).trans s5⟩
              clear p0 p1 p2 p3 p4 p5 s0 s1 s2 s3 s4 s5 hc hc'
              have bVr : Below w0.heap.size w0 wr := C.below hw (fun b e => by omega) (Nat.le_refl _)
              have HS0 := HC.out wr bVr Q0 Q1
              have eFG := HF.out m y hy
              have hp1 := psum_le F (i := m + 1) (m := L) (by omega)
              have hp2 := pmax_le G (i := m + 1) (m := L) (by omega)
              simp only [psum, pmax] at hp1 hp2
              rw [eFG.1] at hp1
              rw [eFG.2] at hp2
              have hb := HB.out
              have hd1 := HD1.out
              have hdp : 1 ≤ dep d y := by
                cases d with
                | zero => exact nomatch y
                | succ d => exact Nat.le_add_right _ _
              have wd : IntKind.i64.wrap ((D0 : Int) - 1) = (D1 : Int) := by rw [wrT (by omega) (by omega)]; omega
              have hcall := fun V bV bb => HIH.out y _ _ _ _ _ _ _ _ _ _ _ _ (lf - (1 + psum F m)) D1 V hv hv' bV bb (by omega) (by omega) (by omega) (by omega)
              have HE : Hid (F m = nds d y) := eFG.1
              have hcal2 := hcall wr.drew bVr.drew BX
              clear eFG hp1 hp2 hb hd1 hdp
              go_upto_region 17 with fail
              refine wp_region_R (fun V => V.cell? ⟨w.heap.size, 5, none⟩ = some (.slice (some ⟨kb, koff, none⟩) L kc) ∧ V.cell? ⟨w.heap.size + 1, 5, none⟩ = some (.slice (some ⟨rb, roff, none⟩) L rc1) ∧ V.cell? ⟨kb, koff + m * 6, none⟩ = some (.int .i64 k1) ∧ V.cell? ⟨kb, koff + m * 6 + 1, none⟩ = some (.string t1) ∧ V.cell? ⟨kb, koff + m * 6 + 2, none⟩ = some (.int .i64 n1) ∧ V.cell? ⟨kb, koff + m * 6 + 3, none⟩ = some (.slice xo xn xc) ∧ V.cell? ⟨kb, koff + m * 6 + 4, none⟩ = some (.slice zo zn zc) ∧ V.cell? ⟨kb, koff + m * 6 + 5, none⟩ = some (.slice uo un uc) ∧ V.cell? ⟨rb, roff + m * 6, none⟩ = some (.int .i64 k2) ∧ V.cell? ⟨rb, roff + m * 6 + 1, none⟩ = some (.string t2) ∧ V.cell? ⟨rb, roff + m * 6 + 2, none⟩ = some (.int .i64 n2) ∧ V.cell? ⟨rb, roff + m * 6 + 3, none⟩ = some (.slice xo2 xn2 xc2) ∧ V.cell? ⟨rb, roff + m * 6 + 4, none⟩ = some (.slice zo2 zn2 zc2) ∧ V.cell? ⟨rb, roff + m * 6 + 5, none⟩ = some (.slice uo2 un2 uc2)) (fun _ => true) (by kernel_rfl) ?_
              refine wpAnyR_take (i := 0) (v := .pointer (some ⟨w.heap.size, 5, none⟩)) rfl (by kernel_rfl) (by kernel_rfl) (by kernel_rfl) (by kernel_rfl) (fun _ _ _ h => h) (Or.inl ⟨by rfl, fun V hV => ?_⟩) ?_ ?_
              · obtain ⟨g0, g1, g2, g3, g4, g5, g6, g7, g8, g9, gA, gB, gC, gD⟩ := hV
                go_simp
              · exact HS0
              conv => arg 9; simp [Act.put]
              refine wpAnyR_take (i := 1) (v := .slice (some ⟨kb, koff, none⟩) L kc) rfl (by kernel_rfl) (by kernel_rfl) (by kernel_rfl) (by kernel_rfl) (fun _ _ _ h => h) (Or.inl ⟨by rfl, fun V hV => ?_⟩) ?_ ?_
              · obtain ⟨g0, g1, g2, g3, g4, g5, g6, g7, g8, g9, gA, gB, gC, gD⟩ := hV
                go_simp
              · exact HS0
              conv => arg 9; simp [Act.put]
              refine wpAnyR_take (i := 2) (v := .int .i64 (m : Nat)) rfl (by kernel_rfl) (by kernel_rfl) (by kernel_rfl) (by kernel_rfl) (fun _ _ _ h => h) (Or.inl ⟨by rfl, fun V hV => ?_⟩) ?_ ?_
              · obtain ⟨g0, g1, g2, g3, g4, g5, g6, g7, g8, g9, gA, gB, gC, gD⟩ := hV
                go_simp
              · exact HS0
              conv => arg 9; simp [Act.put]
              refine wpAnyR_take (i := 3) (v := .pointer (some ⟨kb, koff + m * 6, none⟩)) rfl (by kernel_rfl) (by kernel_rfl) (by kernel_rfl) (by kernel_rfl) (fun _ _ _ h => h) (Or.inl ⟨by rfl, fun V hV => ?_⟩) ?_ ?_
              · obtain ⟨g0, g1, g2, g3, g4, g5, g6, g7, g8, g9, gA, gB, gC, gD⟩ := hV
                go_simp
              · exact HS0
              conv => arg 9; simp [Act.put]
              refine wpAnyR_take (i := 4) (v := .agg #[.int .i64 k1, .string t1, .int .i64 n1, .slice xo xn xc, .slice zo zn zc, .slice uo un uc]) rfl (by kernel_rfl) (by kernel_rfl) (by kernel_rfl) (by kernel_rfl) (fun _ _ _ h => h) (Or.inl ⟨by rfl, fun V hV => ?_⟩) ?_ ?_
              · obtain ⟨g0, g1, g2, g3, g4, g5, g6, g7, g8, g9, gA, gB, gC, gD⟩ := hV
                go_simp
              · exact HS0
              conv => arg 9; simp [Act.put]
              refine wpAnyR_take (i := 5) (v := .pointer (some ⟨w.heap.size + 1, 5, none⟩)) rfl (by kernel_rfl) (by kernel_rfl) (by kernel_rfl) (by kernel_rfl) (fun _ _ _ h => h) (Or.inl ⟨by rfl, fun V hV => ?_⟩) ?_ ?_
              · obtain ⟨g0, g1, g2, g3, g4, g5, g6, g7, g8, g9, gA, gB, gC, gD⟩ := hV
                go_simp
              · exact HS0
              conv => arg 9; simp [Act.put]
              refine wpAnyR_take (i := 6) (v := .slice (some ⟨rb, roff, none⟩) L rc1) rfl (by kernel_rfl) (by kernel_rfl) (by kernel_rfl) (by kernel_rfl) (fun _ _ _ h => h) (Or.inl ⟨by rfl, fun V hV => ?_⟩) ?_ ?_
              · obtain ⟨g0, g1, g2, g3, g4, g5, g6, g7, g8, g9, gA, gB, gC, gD⟩ := hV
                go_simp
              · exact HS0
              conv => arg 9; simp [Act.put]
              refine wpAnyR_take (i := 7) (v := .int .i64 (m : Nat)) rfl (by kernel_rfl) (by kernel_rfl) (by kernel_rfl) (by kernel_rfl) (fun _ _ _ h => h) (Or.inl ⟨by rfl, fun V hV => ?_⟩) ?_ ?_
              · obtain ⟨g0, g1, g2, g3, g4, g5, g6, g7, g8, g9, gA, gB, gC, gD⟩ := hV
                go_simp
              · exact HS0
              conv => arg 9; simp [Act.put]
              refine wpAnyR_take (i := 8) (v := .pointer (some ⟨rb, roff + m * 6, none⟩)) rfl (by kernel_rfl) (by kernel_rfl) (by kernel_rfl) (by kernel_rfl) (fun _ _ _ h => h) (Or.inl ⟨by rfl, fun V hV => ?_⟩) ?_ ?_
              · obtain ⟨g0, g1, g2, g3, g4, g5, g6, g7, g8, g9, gA, gB, gC, gD⟩ := hV
                go_simp
              · exact HS0
              conv => arg 9; simp [Act.put]
              refine wpAnyR_take (i := 9) (v := .agg #[.int .i64 k2, .string t2, .int .i64 n2, .slice xo2 xn2 xc2, .slice zo2 zn2 zc2, .slice uo2 un2 uc2]) rfl (by kernel_rfl) (by kernel_rfl) (by kernel_rfl) (by kernel_rfl) (fun _ _ _ h => h) (Or.inl ⟨by rfl, fun V hV => ?_⟩) ?_ ?_
              · obtain ⟨g0, g1, g2, g3, g4, g5, g6, g7, g8, g9, gA, gB, gC, gD⟩ := hV
                go_simp
              · exact HS0
              conv => arg 9; simp [Act.put]
              refine wpAnyR_take (i := 10) (v := .int .i64 (D0 : Nat)) rfl (by kernel_rfl) (by kernel_rfl) (by kernel_rfl) (by kernel_rfl) (fun _ _ _ h => h) (Or.inl ⟨by rfl, fun V hV => ?_⟩) ?_ ?_
              · obtain ⟨g0, g1, g2, g3, g4, g5, g6, g7, g8, g9, gA, gB, gC, gD⟩ := hV
                go_simp
              · exact HS0
              conv => arg 9; simp [Act.put]
              refine wpAnyR_take (i := 11) (v := .int .i64 (D1 : Nat)) rfl (by kernel_rfl) (by kernel_rfl) (by kernel_rfl) (by kernel_rfl) (fun _ _ _ h => h) (Or.inl ⟨by rfl, fun V hV => ?_⟩) ?_ ?_
              · obtain ⟨g0, g1, g2, g3, g4, g5, g6, g7, g8, g9, gA, gB, gC, gD⟩ := hV
                go_simp
              · exact HS0
              conv => arg 9; simp [Act.put]
              refine wpAnyR_take (i := 12) (v := .pointer (some ⟨pl, 0, none⟩)) rfl (by kernel_rfl) (by kernel_rfl) (by kernel_rfl) (by kernel_rfl) (fun _ _ _ h => h) (Or.inl ⟨by rfl, fun V hV => ?_⟩) ?_ ?_
              · obtain ⟨g0, g1, g2, g3, g4, g5, g6, g7, g8, g9, gA, gB, gC, gD⟩ := hV
                go_simp
              · exact HS0
              conv => arg 9; simp [Act.put]
              refine wpAnyR_one (i := 13) (by kernel_rfl) rfl (fun K hK => ?_)
              go_simp
              go_wp2_with (go_at_call 46; (with_reducible refine hcal2.mono ?_); rintro e w5 ⟨rfl, ch5, bx5⟩
                           have C5 := C.trans ((⟨ch5.os, ch5.tape, ch5.output, ch5.size, ch5.block⟩ : Chg (fun b => b = pl) wr w5))
                           have Q05 := (ch5.block w.heap.size (Array.getElem?_eq_some_iff.1 Q0).1 (by show ¬ w.heap.size = pl; omega)).trans Q0
                           have Q15 := (ch5.block (w.heap.size + 1) (Array.getElem?_eq_some_iff.1 Q1).1 (by show ¬ w.heap.size + 1 = pl; omega)).trans Q1
                           have bV5 : Below w0.heap.size w0 w5 := C5.below hw (fun b e => by omega) (Nat.le_refl _)
                           refine hK _ _ ⟨fun _ => HC.out w5 bV5 Q05 Q15, ?_⟩; clear hK)
              conv => arg 9; simp [Act.put]
              refine wpAnyR_one (i := 14) (by kernel_rfl) rfl (fun K hK => ?_)
              go_simp
              refine hK _ _ ⟨fun _ => HC.out w5 bV5 Q05 Q15, ?_⟩
              clear hK
              refine wpAnyR_done (by kernel_rfl) ?_ _
              clear HS0 HC bVr C BX Q0 Q1 ch5 y0 y1 y2 y3 y4 y5 z0 z1 z2 z3 z4 z5
              go_wp2
              go_roundw
              case rel =>
                refine ⟨m + 1, by omega, by go_num, C5, ?_, Q05, Q15⟩
                have e : lf - (1 + psum F (m + 1)) = lf - (1 + psum F m) - nds d y := by simp only [psum]; rw [HE.out]; omega
                rw [e]; exact bx5
              case measure => simp [intOf]; omega
            · obtain rfl : m = L := by omega
              have t5 : decide ((m : Int) < (m : Int)) = false := by simp
              go_wp2
              go_ret
              exact ⟨rfl, C, BX⟩
theorem deep_any : ∀ (d : Nat) (y : Tr d) (c0 c1 c2 c3 c4 c5 e0 e1 e2 e3 e4 e5 : Value) (w0 : World) (pl lf D0 : Nat) (V : World), w0.heap.size ≤ pl → Tv w0 d y [c0, c1, c2, c3, c4, c5] → Tv w0 d y [e0, e1, e2, e3, e4, e5] → Below w0.heap.size w0 V → Boxed V pl 3 (.int .i64 (lf : Nat)) → D0 ≤ 255 → dep d y ≤ D0 + 1 → nds d y ≤ lf → lf ≤ 4096 → Calls Tryz.prog 46 #[.agg #[c0, c1, c2, c3, c4, c5], .agg #[e0, e1, e2, e3, e4, e5], .int .i64 (D0 : Nat), .pointer (some ⟨pl, 0, none⟩)] V fun e w' => DeP (nds d y) pl lf V e w'
  | 0, _, _, _, _, _, _, _, _, _, _, _, _, _, _, _, _, _, _, _, h, _, _, _, _, _, _, _ => h.elim
  | d + 1, y, c0, c1, c2, c3, c4, c5, e0, e1, e2, e3, e4, e5, w0, pl, lf, D0, V, hpl, h, h', hw, hb, hD, hd, hn, hl => by
    obtain ⟨⟨so, sn, sc, ao, an, ac, ko, kc, ev, h1, h2, h3, h4, h5, h6⟩, hk, hnn, ht⟩ := h
    injection ev with ev0 ev
    injection ev with ev1 ev
    injection ev with ev2 ev
    injection ev with ev3 ev
    injection ev with ev4 ev
    injection ev with ev5 ev
    subst ev0 ev1 ev2 ev3 ev4 ev5
    obtain ⟨⟨po, pn, pc, qo, qn, qc, ro, rc1, ev, g1, g2, g3, g4, g5, g6⟩, _, _, _⟩ := h'
    injection ev with ev0 ev
    injection ev with ev1 ev
    injection ev with ev2 ev
    injection ev with ev3 ev
    injection ev with ev4 ev
    injection ev with ev5 ev
    subst ev0 ev1 ev2 ev3 ev4 ev5
    have q1 := h1.len
    have q2 := g1.len
    have q3 := h3.len
    have q4 := g3.len
    obtain rfl : pn = sn := by omega
    obtain rfl : qn = an := by omega
    exact deep_one d y.ks _ _ _ _ _ so ao ko po qo ro pn sc qn ac y.ks.length kc pc qc rc1 pl lf D0 w0 V hw rfl hpl hb h1 h3 h5 g1 g3 g5 hD hd hn hl (fun z c0 c1 c2 c3 c4 c5 e0 e1 e2 e3 e4 e5 lf D0 W hz hz' hW hb hD hd hn hl => deep_any d z c0 c1 c2 c3 c4 c5 e0 e1 e2 e3 e4 e5 w0 pl lf D0 W hpl hz hz' hW hb hD hd hn hl)
end Go.Proofs.YtiahilelcppfgaaGreat
