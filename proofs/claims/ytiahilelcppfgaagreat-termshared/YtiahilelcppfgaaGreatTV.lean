
/- Package term: cloned, the walk. -/

import Derived.Test.YtiahilelcppfgaaGreatTU

namespace Go.Proofs.YtiahilelcppfgaaGreat

open Go.RowKit

set_option linter.unusedVariables false

set_option linter.unusedSimpArgs false in
set_option maxRecDepth 100000 in
set_option maxHeartbeats 8000000 in
theorem cloned_one (d : Nat) (ks : List (Tr d)) (k n : Int) (t : ByteArray) (sh at1 : List Int) (so ao ko : Option Addr) (sn sc an ac L kc : Nat) (w0 w : World) (hw : Below w0.heap.size w0 w) (hL : ks.length = L) (hs0 : Rd w0 so sn sh) (hs2 : Sl so sn sc) (ha0 : Rd w0 ao an at1) (ha2 : Sl ao an ac) (hk : Kq (Tv w0 d) w0 ko ks) (hk2 : Sl ko L kc) (ht : t.size ≤ 140737488355328) (hkb : -9223372036854775808 ≤ k ∧ k ≤ 9223372036854775807) (hnb : -9223372036854775808 ≤ n ∧ n ≤ 9223372036854775807)
    (ih : ∀ (y : Tr d) (c0 c1 c2 c3 c4 c5 : Value) (V : World), Tv w0 d y [c0, c1, c2, c3, c4, c5] → Below w0.heap.size w0 V → Calls Tryz.prog 37 #[.agg #[c0, c1, c2, c3, c4, c5]] V fun e w' => ClP d y V e w') :
    Calls Tryz.prog 37 #[.agg #[.int .i64 k, .string t, .int .i64 n, .slice so sn sc, .slice ao an ac, .slice ko L kc]] w fun e w' => ClP (d + 1) (Tr.mk ⟨k, t, n, sh, at1⟩ ks) w e w' := by
  have hs := hs0.below hw (Nat.le_refl _)
  have ha := ha0.below hw (Nat.le_refl _)
  have k0 := box_below w (.cells #[.int .i64 k, .string t, .int .i64 n, .slice so sn sc, .slice ao an ac, .slice ko L kc] 31)
  have k1 := box_below (w.alloc (.cells #[.int .i64 k, .string t, .int .i64 n, .slice so sn sc, .slice ao an ac, .slice ko L kc] 31)) (.cells #[.int .i64 0, .string ⟨#[]⟩, .int .i64 0, .slice none 0 0, .slice none 0 0, .slice none 0 0] 31)
  have B0 : Cb w ((w.alloc (.cells #[.int .i64 k, .string t, .int .i64 n, .slice so sn sc, .slice ao an ac, .slice ko L kc] 31)).alloc (.cells #[.int .i64 0, .string ⟨#[]⟩, .int .i64 0, .slice none 0 0, .slice none 0 0, .slice none 0 0] 31)) (.int .i64 k) (.string t) (.int .i64 n) (.slice so sn sc) (.slice ao an ac) (.slice ko L kc) := by
    refine ⟨k0.trans (k1.mono k0.size), (k1.block _ (by simp)).trans (allocNew _ _), ?_⟩
    have := allocNew (w.alloc (.cells #[.int .i64 k, .string t, .int .i64 n, .slice so sn sc, .slice ao an ac, .slice ko L kc] 31)) (.cells #[.int .i64 0, .string ⟨#[]⟩, .int .i64 0, .slice none 0 0, .slice none 0 0, .slice none 0 0] 31)
    rw [World.size_alloc] at this
    exact this
  have hst := strClone_any t ((w.alloc (.cells #[.int .i64 k, .string t, .int .i64 n, .slice so sn sc, .slice ao an ac, .slice ko L kc] 31)).alloc (.cells #[.int .i64 0, .string ⟨#[]⟩, .int .i64 0, .slice none 0 0, .slice none 0 0, .slice none 0 0] 31)) ht
  obtain ⟨q0, q1, q2, q3, q4, q5⟩ := B0.cells
  clear hs0 ha0 k0 k1
  go_enter Tryz.func37, Tryz.ntmps37
  go_wp2_with (go_at_call 42; (with_reducible refine hst.mono ?_); rintro e W1 ⟨rfl, b1⟩; have B1 := B0.below b1 (Nat.le_refl _); have B3 := B1.set 1 (.string t) _ _ _ _ _ _ rfl; obtain ⟨u0, u1, u2, u3, u4, u5⟩ := B1.cells; have g1 := B1.fr 1)
  clear q0 q1 q2 q3 q4 q5 u0 u1 u2 u3 u4 u5 g1 hst
  generalize W1.setCell ⟨w.heap.size, 1, none⟩ (.string t) = W3 at *
  refine wp_region_R (fun V => V.cell? ⟨w.heap.size, 3, none⟩ = some (.slice so sn sc) ∧ V.cell? ⟨w.heap.size, 4, none⟩ = some (.slice ao an ac)) (fun i => decide (i ≠ 10)) (by kernel_rfl) ?_
  refine wpAnyR_take (i := 0) (v := .pointer (some ⟨w.heap.size, 3, none⟩)) rfl (by kernel_rfl) (by kernel_rfl) (by kernel_rfl) (by kernel_rfl) (fun _ _ _ h => h) (Or.inl ⟨by rfl, fun V hV => ?_⟩) ?_ ?_
  · obtain ⟨j3, j4⟩ := hV
    go_simp
  · exact ⟨B3.cells.2.2.2.1, B3.cells.2.2.2.2.1⟩
  conv => arg 9; simp [Act.put]
  refine wpAnyR_take (i := 1) (v := .pointer (some ⟨w.heap.size, 3, none⟩)) rfl (by kernel_rfl) (by kernel_rfl) (by kernel_rfl) (by kernel_rfl) (fun _ _ _ h => h) (Or.inl ⟨by rfl, fun V hV => ?_⟩) ?_ ?_
  · obtain ⟨j3, j4⟩ := hV
    go_simp
  · exact ⟨B3.cells.2.2.2.1, B3.cells.2.2.2.2.1⟩
  conv => arg 9; simp [Act.put]
  refine wpAnyR_take (i := 2) (v := .slice so sn sc) rfl (by kernel_rfl) (by kernel_rfl) (by kernel_rfl) (by kernel_rfl) (fun _ _ _ h => h) (Or.inl ⟨by rfl, fun V hV => ?_⟩) ?_ ?_
  · obtain ⟨j3, j4⟩ := hV
    go_simp
  · exact ⟨B3.cells.2.2.2.1, B3.cells.2.2.2.2.1⟩
  conv => arg 9; simp [Act.put]
  refine wpAnyR_take (i := 4) (v := .pointer (some ⟨w.heap.size, 3, none⟩)) rfl (by kernel_rfl) (by kernel_rfl) (by kernel_rfl) (by kernel_rfl) (fun _ _ _ h => h) (Or.inl ⟨by rfl, fun V hV => ?_⟩) ?_ ?_
  · obtain ⟨j3, j4⟩ := hV
    go_simp
  · exact ⟨B3.cells.2.2.2.1, B3.cells.2.2.2.2.1⟩
  conv => arg 9; simp [Act.put]
  refine wpAnyR_take (i := 5) (v := .pointer (some ⟨w.heap.size, 4, none⟩)) rfl (by kernel_rfl) (by kernel_rfl) (by kernel_rfl) (by kernel_rfl) (fun _ _ _ h => h) (Or.inl ⟨by rfl, fun V hV => ?_⟩) ?_ ?_
  · obtain ⟨j3, j4⟩ := hV
    go_simp
  · exact ⟨B3.cells.2.2.2.1, B3.cells.2.2.2.2.1⟩
  conv => arg 9; simp [Act.put]
  refine wpAnyR_take (i := 6) (v := .slice ao an ac) rfl (by kernel_rfl) (by kernel_rfl) (by kernel_rfl) (by kernel_rfl) (fun _ _ _ h => h) (Or.inl ⟨by rfl, fun V hV => ?_⟩) ?_ ?_
  · obtain ⟨j3, j4⟩ := hV
    go_simp
  · exact ⟨B3.cells.2.2.2.1, B3.cells.2.2.2.2.1⟩
  conv => arg 9; simp [Act.put]
  refine wpAnyR_one (i := 3) (by kernel_rfl) rfl (fun K hK => ?_)
  go_simp
  go_wp2_with (go_at_call 63; (with_reducible refine (clone_any so sn sc sh _ (hs.below B3.drew.bel (Nat.le_refl _)) hs2).mono ?_); rintro e W4 ⟨p1, pc1, rfl, f1, b4⟩; have B4 := B3.drew.below b4 (Nat.le_refl _); refine hK _ _ ⟨fun _ => ⟨B4.cells.2.2.2.1, B4.cells.2.2.2.2.1⟩, ?_⟩; clear hK)
  conv => arg 9; simp [Act.put]
  refine wpAnyR_one (i := 7) (by kernel_rfl) rfl (fun K hK => ?_)
  go_simp
  go_wp2_with (go_at_call 64; (with_reducible refine (clone8_any ao an ac at1 _ (ha.below B4.bel (Nat.le_refl _)) ha2).mono ?_); rintro e W5 ⟨p2, pc2, rfl, f2, b5⟩; have B5 := B4.below b5 (Nat.le_refl _); refine hK _ _ ⟨fun _ => ⟨B5.cells.2.2.2.1, B5.cells.2.2.2.2.1⟩, ?_⟩; clear hK)
  conv => arg 9; simp [Act.put]
  refine wpAnyR_take (i := 8) (v := .agg #[.slice p1 sn pc1, .slice p2 an pc2]) rfl (by kernel_rfl) (by kernel_rfl) (by kernel_rfl) (by kernel_rfl) (fun _ _ _ h => h) (Or.inl ⟨by rfl, fun V hV => ?_⟩) ?_ ?_
  · obtain ⟨j3, j4⟩ := hV
    go_simp
  · exact ⟨B5.cells.2.2.2.1, B5.cells.2.2.2.2.1⟩
  conv => arg 9; simp [Act.put]
  refine wpAnyR_one (i := 9) (by kernel_rfl) rfl (fun K hK => ?_)
  go_simp
  refine hK _ _ ⟨fun _ => ⟨B5.cells.2.2.2.1, B5.cells.2.2.2.2.1⟩, ?_⟩
  clear hK
  conv => arg 9; simp [Act.put]
  refine wpAnyR_one (i := 10) (by kernel_rfl) rfl (fun K hK => ?_)
  have y3 := B5.cells.2.2.2.1
  have y4 := B5.cells.2.2.2.2.1
  have g3 := B5.fr 3
  have B6 := B5.set 3 (.slice p1 sn pc1) _ _ _ _ _ _ rfl
  have B7 := B6.set 4 (.slice p2 an pc2) _ _ _ _ _ _ rfl
  have y4' := B6.cells.2.2.2.2.1
  have g4' := B6.fr 4
  go_simp
  refine hK _ _ ⟨fun h => absurd h (by decide), ?_⟩
  clear hK
  refine wpAnyR_done (by kernel_rfl) ?_ _
  have s3 : w.heap.size + 1 < W3.heap.size := (Array.getElem?_eq_some_iff.1 B3.rr).1
  have sz4 : W3.heap.size ≤ W4.heap.size := b4.size
  have sz5 := b5.size
  have m7 : Mid (w.heap.size + 2) W5.heap.size W5 ((W5.setCell ⟨w.heap.size, 3, none⟩ (.slice p1 sn pc1)).setCell ⟨w.heap.size, 4, none⟩ (.slice p2 an pc2)) := (Mid.set W5 w.heap.size 3 (.slice p1 sn pc1) (.inl (by omega))).trans (Mid.set _ w.heap.size 4 (.slice p2 an pc2) (.inl (by omega)))
  have hp1 : ∀ b off, p1 = some ⟨b, off, none⟩ → w.heap.size + 2 ≤ b ∧ b < W5.heap.size := fun b off e => by
    have x1 : W3.heap.size ≤ b ∧ b < W4.heap.size := f1.at b off e
    omega
  have hp2 : ∀ b off, p2 = some ⟨b, off, none⟩ → w.heap.size + 2 ≤ b ∧ b < W5.heap.size := fun b off e => by
    have x1 := f2.at b off e
    omega
  have R1 := (f1.below b5 (Nat.le_refl _)).rd.mid m7 hp1
  have R2 := f2.rd.mid m7 hp2
  have sl1 := f1.sl
  have gp1 : ∀ a, p1 = some a → w.heap.size ≤ a.block := fun a e => by have : W3.heap.size ≤ a.block := ft_ge f1 a e; omega
  have gp2 : ∀ a, p2 = some a → w.heap.size ≤ a.block := fun a e => by have := ft_ge f2 a e; omega
  have sl2 := f2.sl
  have sz7 : W5.heap.size ≤ ((W5.setCell ⟨w.heap.size, 3, none⟩ (.slice p1 sn pc1)).setCell ⟨w.heap.size, 4, none⟩ (.slice p2 an pc2)).heap.size := m7.size
  clear B3 B4 B5 B6 y3 y4 g3 y4' g4' f1 f2 m7 b4 b5 hs ha b1 B0 B1 sz4 s3
  generalize (W5.setCell ⟨w.heap.size, 3, none⟩ (.slice p1 sn pc1)).setCell ⟨w.heap.size, 4, none⟩ (.slice p2 an pc2) = W7 at *
  have bw7 := hw.trans (B7.bel.mono hw.size)
  have hct := cloneT_any ks ko kc w0 W7 (hk.below bw7 (Nat.le_refl _) (fun _ _ h => h)) (by rw [hL]; exact hk2)
  rw [hL] at hct
  have HR : Hid ((Rd W7 p1 sn sh ∧ Sl p1 sn pc1 ∧ ∀ b off, p1 = some ⟨b, off, none⟩ → w.heap.size + 2 ≤ b ∧ b < W7.heap.size) ∧ (∀ a, p1 = some a → w.heap.size ≤ a.block) ∧ (∀ a, p2 = some a → w.heap.size ≤ a.block) ∧ (Rd W7 p2 an at1 ∧ Sl p2 an pc2 ∧ ∀ b off, p2 = some ⟨b, off, none⟩ → w.heap.size + 2 ≤ b ∧ b < W7.heap.size)) :=
    ⟨⟨R1, sl1, fun b off e => by have := hp1 b off e; omega⟩, gp1, gp2, ⟨R2, sl2, fun b off e => by have := hp2 b off e; omega⟩⟩
  have hrm := hk.room
  rw [hL] at hrm
  have HIH : Hid (∀ (y : Tr d) (c0 c1 c2 c3 c4 c5 : Value) (V : World), Tv w0 d y [c0, c1, c2, c3, c4, c5] → Below w0.heap.size w0 V → Calls Tryz.prog 37 #[.agg #[c0, c1, c2, c3, c4, c5]] V fun e w' => ClP d y V e w') := ih
  clear R1 R2 sl1 sl2 hp1 hp2 sz5 sz7 hk hk2 hs2 ha2 ih
  obtain ⟨j0, j1, j2, j3, j4, j5⟩ := B7.cells
  have szw := (Array.getElem?_eq_some_iff.1 B7.rr).1
  go_wp2_with (go_at_call 65; (with_reducible refine hct.mono ?_); rintro e W8 ⟨o1, oc, news, rfl, b8, own8, hy8⟩; have B8 := B7.below b8 (Nat.le_refl _); obtain ⟨x0, x1, x2, x3, x4, x5⟩ := B8.cells; have fr5 := B8.fr 5; have B9 := B8.set 5 (.slice o1 L oc) _ _ _ _ _ _ rfl; have y5 := B9.cells.2.2.2.2.2)
  have own9 : (W8.setCell ⟨w.heap.size, 5, none⟩ (.slice o1 L oc)).ownsRow W7.heap.size 31 6 (.slice o1 L oc) L news := (Chg.of_grown (set1 W8 w.heap.size 5 (.slice o1 L oc))).own own8 (fun g e e' => by
    have := (own8.lt g e).1
    have e'' : w.heap.size = g := by injection e'
    omega)
  have m9 : Mid (w.heap.size + 2) W7.heap.size W7 (W8.setCell ⟨w.heap.size, 5, none⟩ (.slice o1 L oc)) := (Mid.below b8 (Nat.le_refl _)).trans (Mid.set _ _ _ _ (.inl (by omega)))
  have SO : Hid (Sl o1 L oc ∧ ∀ a, o1 = some a → W7.heap.size ≤ a.block) := ⟨own_sl own9, own_ge own9⟩
  have CL := Cl.begin (w0 := w0) hL own9 hy8
  clear own9 own8 hy8 b8 B8 x0 x1 x2 x3 x4 x5 fr5 hct j0 j1 j2 j3 j4 j5
  generalize W8.setCell ⟨w.heap.size, 5, none⟩ (.slice o1 L oc) = W9 at *
  go_loopw [26] (fun i V => ∃ j : Nat, j ≤ L ∧ i = .int .i64 (j : Nat) ∧ Cb w V (.int .i64 k) (.string t) (.int .i64 n) (.slice p1 sn pc1) (.slice p2 an pc2) (.slice o1 L oc) ∧ Mid (w.heap.size + 2) W7.heap.size W7 V ∧ Cl d ks w0 V W7.heap.size L oc j o1) (fun i _ => L - (intOf i).toNat)
  case atStart => exact ⟨0, Nat.zero_le _, rfl, B9, m9, CL⟩
  case round =>
    obtain ⟨j, hj, rfl, B, M, C⟩ := hrel
    clear B9 m9 CL y5
    by_cases hlt : j < L
    · have t3 : decide ((j : Int) < (L : Int)) = true := by simp; omega
      have bj : (j : Int) < (L : Int) := by omega
      obtain ⟨G, cur, rfl, hG, hrow, hcs, hLc, hel⟩ := C.row (by omega)
      obtain ⟨y, hy⟩ : ∃ y, ks[j]? = some y := ⟨ks[j]'(by omega), by simp⟩
      obtain ⟨c0, c1, c2, c3, c4, c5, hv, q0, q1, q2, q3, q4, q5⟩ := hel j y hy
      have hv := hv.2 (Nat.le_refl _)
      obtain ⟨k1, t1, n1, xo, xn, xc, zo, zn, zc, uo, un, uc, ev⟩ := hv.form
      injection ev with ev0 ev
      injection ev with ev1 ev
      injection ev with ev2 ev
      injection ev with ev3 ev
      injection ev with ev4 ev
      injection ev with ev5 ev
      subst ev0 ev1 ev2 ev3 ev4 ev5
      have e0 := (cell_of_row wr G (j * 6) cur _ _ hrow).trans q0
      have e1 := (cell_of_row wr G (j * 6 + 1) cur _ _ hrow).trans q1
      have e2 := (cell_of_row wr G (j * 6 + 2) cur _ _ hrow).trans q2
      have e3 := (cell_of_row wr G (j * 6 + 3) cur _ _ hrow).trans q3
      have e4 := (cell_of_row wr G (j * 6 + 4) cur _ _ hrow).trans q4
      have e5 := (cell_of_row wr G (j * 6 + 5) cur _ _ hrow).trans q5
      clear q0 q1 q2 q3 q4 q5
      have hsz : j * 6 + 6 ≤ cur.size := by rw [hcs]; omega
      have kx := box_below wr (.cells #[.int .i64 k1, .string t1, .int .i64 n1, .slice xo xn xc, .slice zo zn zc, .slice uo un uc] 31)
      have BX := B.below kx (Nat.le_refl _)
      have RX := allocNew wr (.cells #[.int .i64 k1, .string t1, .int .i64 n1, .slice xo xn xc, .slice zo zn zc, .slice uo un uc] 31)
      have GX := (kx.block G (Array.getElem?_eq_some_iff.1 hrow).1).trans hrow
      have lG := (Array.getElem?_eq_some_iff.1 hrow).1
      have hsX : wr.heap.size < (wr.alloc (.cells #[.int .i64 k1, .string t1, .int .i64 n1, .slice xo xn xc, .slice zo zn zc, .slice uo un uc] 31)).heap.size := by simp
      have HS0 : (fun V : World => V.cell? ⟨w.heap.size, 5, none⟩ = some (.slice (some ⟨G, 0, none⟩) L oc) ∧ V.cell? ⟨wr.heap.size, 0, none⟩ = some (.int .i64 k1) ∧ V.cell? ⟨wr.heap.size, 1, none⟩ = some (.string t1) ∧ V.cell? ⟨wr.heap.size, 2, none⟩ = some (.int .i64 n1) ∧ V.cell? ⟨wr.heap.size, 3, none⟩ = some (.slice xo xn xc) ∧ V.cell? ⟨wr.heap.size, 4, none⟩ = some (.slice zo zn zc) ∧ V.cell? ⟨wr.heap.size, 5, none⟩ = some (.slice uo un uc)) (wr.alloc (.cells #[.int .i64 k1, .string t1, .int .i64 n1, .slice xo xn xc, .slice zo zn zc, .slice uo un uc] 31)) := ⟨BX.cells.2.2.2.2.2, box6 RX⟩
      go_wp2
      generalize wr.alloc (.cells #[.int .i64 k1, .string t1, .int .i64 n1, .slice xo xn xc, .slice zo zn zc, .slice uo un uc] 31) = X0 at *
      refine wp_region_R (fun V => V.cell? ⟨w.heap.size, 5, none⟩ = some (.slice (some ⟨G, 0, none⟩) L oc) ∧ V.cell? ⟨wr.heap.size, 0, none⟩ = some (.int .i64 k1) ∧ V.cell? ⟨wr.heap.size, 1, none⟩ = some (.string t1) ∧ V.cell? ⟨wr.heap.size, 2, none⟩ = some (.int .i64 n1) ∧ V.cell? ⟨wr.heap.size, 3, none⟩ = some (.slice xo xn xc) ∧ V.cell? ⟨wr.heap.size, 4, none⟩ = some (.slice zo zn zc) ∧ V.cell? ⟨wr.heap.size, 5, none⟩ = some (.slice uo un uc)) (fun i => decide (i ≠ 6)) (by kernel_rfl) ?_
      refine wpAnyR_take (i := 0) (v := .pointer (some ⟨w.heap.size, 5, none⟩)) rfl (by kernel_rfl) (by kernel_rfl) (by kernel_rfl) (by kernel_rfl) (fun _ _ _ h => h) (Or.inl ⟨by rfl, fun V hV => ?_⟩) ?_ ?_
      · obtain ⟨g0, g1, g2, g3, g4, g5, g6⟩ := hV
        go_simp
      · exact HS0
      conv => arg 9; simp [Act.put]
      refine wpAnyR_take (i := 1) (v := .slice (some ⟨G, 0, none⟩) L oc) rfl (by kernel_rfl) (by kernel_rfl) (by kernel_rfl) (by kernel_rfl) (fun _ _ _ h => h) (Or.inl ⟨by rfl, fun V hV => ?_⟩) ?_ ?_
      · obtain ⟨g0, g1, g2, g3, g4, g5, g6⟩ := hV
        go_simp
      · exact HS0
      conv => arg 9; simp [Act.put]
      refine wpAnyR_take (i := 2) (v := .int .i64 (j : Nat)) rfl (by kernel_rfl) (by kernel_rfl) (by kernel_rfl) (by kernel_rfl) (fun _ _ _ h => h) (Or.inl ⟨by rfl, fun V hV => ?_⟩) ?_ ?_
      · obtain ⟨g0, g1, g2, g3, g4, g5, g6⟩ := hV
        go_simp
      · exact HS0
      conv => arg 9; simp [Act.put]
      refine wpAnyR_take (i := 3) (v := .agg #[.int .i64 k1, .string t1, .int .i64 n1, .slice xo xn xc, .slice zo zn zc, .slice uo un uc]) rfl (by kernel_rfl) (by kernel_rfl) (by kernel_rfl) (by kernel_rfl) (fun _ _ _ h => h) (Or.inl ⟨by rfl, fun V hV => ?_⟩) ?_ ?_
      · obtain ⟨g0, g1, g2, g3, g4, g5, g6⟩ := hV
        go_simp
      · exact HS0
      conv => arg 9; simp [Act.put]
      refine wpAnyR_one (i := 4) (by kernel_rfl) rfl (fun K hK => ?_)
      go_simp
      go_wp2_with (go_at_call 37; (with_reducible refine (HIH.out y _ _ _ _ _ _ _ hv (hw.trans (BX.drew.bel.mono hw.size))).mono ?_); rintro e W8 ⟨v0, v1, v2, v3, v4, v5, rfl, tw8, b8⟩; have B8 := BX.drew.below b8 (Nat.le_refl _); have G8 := (b8.block G (Array.getElem?_eq_some_iff.1 GX).1).trans GX; have HS8 : (fun V : World => V.cell? ⟨w.heap.size, 5, none⟩ = some (.slice (some ⟨G, 0, none⟩) L oc) ∧ V.cell? ⟨wr.heap.size, 0, none⟩ = some (.int .i64 k1) ∧ V.cell? ⟨wr.heap.size, 1, none⟩ = some (.string t1) ∧ V.cell? ⟨wr.heap.size, 2, none⟩ = some (.int .i64 n1) ∧ V.cell? ⟨wr.heap.size, 3, none⟩ = some (.slice xo xn xc) ∧ V.cell? ⟨wr.heap.size, 4, none⟩ = some (.slice zo zn zc) ∧ V.cell? ⟨wr.heap.size, 5, none⟩ = some (.slice uo un uc)) W8 := ⟨B8.cells.2.2.2.2.2, box6 ((b8.block wr.heap.size hsX).trans RX)⟩; refine hK _ _ ⟨fun _ => HS8, ?_⟩; clear hK)
      conv => arg 9; simp [Act.put]
      obtain ⟨k3, t3, n3, xo3, xn3, xc3, zo3, zn3, zc3, uo3, un3, uc3, ev⟩ := tw8.tv.form
      injection ev with ev0 ev
      injection ev with ev1 ev
      injection ev with ev2 ev
      injection ev with ev3 ev
      injection ev with ev4 ev
      injection ev with ev5 ev
      subst ev0 ev1 ev2 ev3 ev4 ev5
      refine wpAnyR_one (i := 5) (by kernel_rfl) rfl (fun K hK => ?_)
      go_simp
      refine hK _ _ ⟨fun _ => HS8, ?_⟩
      clear hK
      conv => arg 9; simp [Act.put]
      refine wpAnyR_one (i := 6) (by kernel_rfl) rfl (fun K hK => ?_)
      obtain ⟨⟨a0, a1⟩, a2, ⟨a3, a4⟩, a5, ⟨a6, a7⟩, a8, ⟨a9, a10⟩, a11, ⟨a12, a13⟩, a14, ⟨a15, a16⟩, a17⟩ := W6_asks (j * 6) (.int .i64 k3) (.string t3) (.int .i64 n3) (.slice xo3 xn3 xc3) (.slice zo3 zn3 zc3) (.slice uo3 un3 uc3) G8 hsz
      go_simp
      refine hK _ _ ⟨fun h => absurd h (by decide), ?_⟩
      clear hK
      refine wpAnyR_done (by kernel_rfl) ?_ _
      obtain ⟨B9, M9, C9⟩ := cl_step d ks y _ _ _ _ _ _ (.int .i64 k3) (.string t3) (.int .i64 n3) (.slice xo3 xn3 xc3) (.slice zo3 zn3 zc3) (.slice uo3 un3 uc3) L oc j G cur w0 w W7 wr X0 W8 _ szw hy hG hcs hLc hsz hel kx lG B8 b8 tw8 M (W6_grown W8 G (j * 6) (.int .i64 k3) (.string t3) (.int .i64 n3) (.slice xo3 xn3 xc3) (.slice zo3 zn3 zc3) (.slice uo3 un3 uc3)) (W6_row (j * 6) (.int .i64 k3) (.string t3) (.int .i64 n3) (.slice xo3 xn3 xc3) (.slice zo3 zn3 zc3) (.slice uo3 un3 uc3) G8)
      unfold W6 at B9 M9 C9
      generalize ((((((W8.setCell ⟨G, j * 6, none⟩ (.int .i64 k3)).setCell ⟨G, j * 6 + 1, none⟩ (.string t3)).setCell ⟨G, j * 6 + 2, none⟩ (.int .i64 n3)).setCell ⟨G, j * 6 + 3, none⟩ (.slice xo3 xn3 xc3)).setCell ⟨G, j * 6 + 4, none⟩ (.slice zo3 zn3 zc3)).setCell ⟨G, j * 6 + 5, none⟩ (.slice uo3 un3 uc3)) = W9' at *
      go_wp2
      go_roundw
      case rel => exact ⟨j + 1, by omega, by go_num, B9, M9, C9⟩
      case measure => simp [intOf]; omega
    · obtain rfl : j = L := by omega
      have t3 : decide ((j : Int) < (j : Int)) = false := by simp
      obtain ⟨e0, e1, e2, e3, e4, e5⟩ := B.cells
      obtain ⟨⟨⟨a0, a1⟩, a2, ⟨a3, a4⟩, a5, ⟨a6, a7⟩, a8, ⟨a9, a10⟩, a11, ⟨a12, a13⟩, a14, ⟨a15, a16⟩, a17⟩, ⟨f0, f1, f2, f3, f4, f5⟩, TW, bl⟩ := cl_end d ks k n t sh at1 p1 p2 o1 sn pc1 an pc2 j oc w0 w W7 wr hL HR.out SO.out hrm hkb hnb ht B M C szw
      have HTW : Hid (_) := TW
      have Hbl : Hid (_) := bl
      clear TW bl B M C hL hrm hkb hnb ht hw bw7 hj HIH
      go_wp2
      (try simp only [Exit.inBlock, Exit.then])
      refine bodyPost_ret (v := .agg #[.int .i64 k, .string t, .int .i64 n, .slice p1 sn pc1, .slice p2 an pc2, .slice o1 j oc]) (by simp [results, Tryz.results37]; go_simp) rfl ?_
      exact ⟨_, _, _, _, _, _, rfl, HTW.out, Hbl.out⟩
end Go.Proofs.YtiahilelcppfgaaGreat
