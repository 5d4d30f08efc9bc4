
/- The document's own: a term in memory of its own. -/

import Derived.Test.YtiahilelcppfgaaGreatOB

namespace Go.Proofs.YtiahilelcppfgaaGreat

open Go.RowKit

set_option linter.unusedVariables false

set_option linter.unusedSimpArgs false in
set_option maxRecDepth 100000 in
set_option maxHeartbeats 8000000 in
theorem rown_one (d : Nat) (ks : List (Tr d)) (k n : Int) (t : ByteArray) (sh at1 : List Int) (so ao ko : Option Addr) (sn sc an ac L kc : Nat) (w0 w : World) (hw : Below w0.heap.size w0 w) (hL : ks.length = L) (hs0 : Rd w0 so sn sh) (hs2 : Sl so sn sc) (ha0 : Rd w0 ao an at1) (ha2 : Sl ao an ac) (hk : Kq (Tv w0 d) w0 ko ks) (hk2 : Sl ko L kc) (ht : t.size ≤ 140737488355328) (hkb : -9223372036854775808 ≤ k ∧ k ≤ 9223372036854775807) (hnb : -9223372036854775808 ≤ n ∧ n ≤ 9223372036854775807)
    (ih : ∀ (y : Tr d) (c0 c1 c2 c3 c4 c5 : Value) (V : World), Tv w0 d y [c0, c1, c2, c3, c4, c5] → Below w0.heap.size w0 V → Calls Tryz.prog 53 #[.agg #[c0, c1, c2, c3, c4, c5]] V fun e w' => OwT d y V e w') :
    Calls Tryz.prog 53 #[.agg #[.int .i64 k, .string t, .int .i64 n, .slice so sn sc, .slice ao an ac, .slice ko L kc]] w fun e w' => OwP d (Tr.mk ⟨k, t, n, sh, at1⟩ ks) w e w' := by
  have hs := hs0.below hw (Nat.le_refl _)
  have ha := ha0.below hw (Nat.le_refl _)
  have hsr := hs.room
  have har := ha.room
  have k0 := box_below w (.cells #[.int .i64 k, .string t, .int .i64 n, .slice so sn sc, .slice ao an ac, .slice ko L kc] 31)
  have k1 := box_below (w.alloc (.cells #[.int .i64 k, .string t, .int .i64 n, .slice so sn sc, .slice ao an ac, .slice ko L kc] 31)) (.cells #[.int .i64 0, .string ⟨#[]⟩, .int .i64 0, .slice none 0 0, .slice none 0 0, .slice none 0 0] 31)
  have B0 : Cb w ((w.alloc (.cells #[.int .i64 k, .string t, .int .i64 n, .slice so sn sc, .slice ao an ac, .slice ko L kc] 31)).alloc (.cells #[.int .i64 0, .string ⟨#[]⟩, .int .i64 0, .slice none 0 0, .slice none 0 0, .slice none 0 0] 31)) (.int .i64 k) (.string t) (.int .i64 n) (.slice so sn sc) (.slice ao an ac) (.slice ko L kc) := by
    refine ⟨k0.trans (k1.mono k0.size), (k1.block _ (by simp)).trans (allocNew _ _), ?_⟩
    have := allocNew (w.alloc (.cells #[.int .i64 k, .string t, .int .i64 n, .slice so sn sc, .slice ao an ac, .slice ko L kc] 31)) (.cells #[.int .i64 0, .string ⟨#[]⟩, .int .i64 0, .slice none 0 0, .slice none 0 0, .slice none 0 0] 31)
    rw [World.size_alloc] at this
    exact this
  clear hs0 ha0 k0 k1
  go_enter Tryz.func53, Tryz.ntmps53
  go_upto_region 1 with fail
  generalize (w.alloc (.cells #[.int .i64 k, .string t, .int .i64 n, .slice so sn sc, .slice ao an ac, .slice ko L kc] 31)).alloc (.cells #[.int .i64 0, .string ⟨#[]⟩, .int .i64 0, .slice none 0 0, .slice none 0 0, .slice none 0 0] 31) = W3 at *
  refine wp_region_R (fun V => V.cell? ⟨w.heap.size, 3, none⟩ = some (.slice so sn sc) ∧ V.cell? ⟨w.heap.size, 4, none⟩ = some (.slice ao an ac)) (fun i => decide (i ≠ 10)) (by kernel_rfl) ?_
  refine wpAnyR_take (i := 0) (v := .pointer (some ⟨w.heap.size, 3, none⟩)) rfl (by kernel_rfl) (by kernel_rfl) (by kernel_rfl) (by kernel_rfl) (fun _ _ _ h => h) (Or.inl ⟨by rfl, fun V hV => ?_⟩) ?_ ?_
  · obtain ⟨j3, j4⟩ := hV
    go_simp
  · exact ⟨B0.cells.2.2.2.1, B0.cells.2.2.2.2.1⟩
  conv => arg 9; simp [Act.put]
  refine wpAnyR_take (i := 1) (v := .pointer (some ⟨w.heap.size, 3, none⟩)) rfl (by kernel_rfl) (by kernel_rfl) (by kernel_rfl) (by kernel_rfl) (fun _ _ _ h => h) (Or.inl ⟨by rfl, fun V hV => ?_⟩) ?_ ?_
  · obtain ⟨j3, j4⟩ := hV
    go_simp
  · exact ⟨B0.cells.2.2.2.1, B0.cells.2.2.2.2.1⟩
  conv => arg 9; simp [Act.put]
  refine wpAnyR_take (i := 2) (v := .slice so sn sc) rfl (by kernel_rfl) (by kernel_rfl) (by kernel_rfl) (by kernel_rfl) (fun _ _ _ h => h) (Or.inl ⟨by rfl, fun V hV => ?_⟩) ?_ ?_
  · obtain ⟨j3, j4⟩ := hV
    go_simp
  · exact ⟨B0.cells.2.2.2.1, B0.cells.2.2.2.2.1⟩
  conv => arg 9; simp [Act.put]
  refine wpAnyR_take (i := 4) (v := .pointer (some ⟨w.heap.size, 3, none⟩)) rfl (by kernel_rfl) (by kernel_rfl) (by kernel_rfl) (by kernel_rfl) (fun _ _ _ h => h) (Or.inl ⟨by rfl, fun V hV => ?_⟩) ?_ ?_
  · obtain ⟨j3, j4⟩ := hV
    go_simp
  · exact ⟨B0.cells.2.2.2.1, B0.cells.2.2.2.2.1⟩
  conv => arg 9; simp [Act.put]
  refine wpAnyR_take (i := 5) (v := .pointer (some ⟨w.heap.size, 4, none⟩)) rfl (by kernel_rfl) (by kernel_rfl) (by kernel_rfl) (by kernel_rfl) (fun _ _ _ h => h) (Or.inl ⟨by rfl, fun V hV => ?_⟩) ?_ ?_
  · obtain ⟨j3, j4⟩ := hV
    go_simp
  · exact ⟨B0.cells.2.2.2.1, B0.cells.2.2.2.2.1⟩
  conv => arg 9; simp [Act.put]
  refine wpAnyR_take (i := 6) (v := .slice ao an ac) rfl (by kernel_rfl) (by kernel_rfl) (by kernel_rfl) (by kernel_rfl) (fun _ _ _ h => h) (Or.inl ⟨by rfl, fun V hV => ?_⟩) ?_ ?_
  · obtain ⟨j3, j4⟩ := hV
    go_simp
  · exact ⟨B0.cells.2.2.2.1, B0.cells.2.2.2.2.1⟩
  conv => arg 9; simp [Act.put]
  refine wpAnyR_one (i := 3) (by kernel_rfl) rfl (fun K hK => ?_)
  refine step_joinW tyI rfl (.const (.slice none 0 0)) (.tmp 7) rfl (w.heap.size + 2) sn none so 0 0 sn sc [] sh (Nat.zero_add _) rfl rfl (Ft.nil _ _ _) (hs.below B0.drew.bel (Nat.le_refl _)) hs2 (by omega) (by have := (Array.getElem?_eq_some_iff.1 B0.rr).1; show w.heap.size + 2 ≤ W3.heap.size; omega) ?_
  intro p1 pc1 W4 f1 gr4 at4
  rw [List.nil_append] at f1
  have b4 : Below W3.drew.heap.size W3.drew W4 := (Below.refl _ _).grown gr4 (Nat.le_refl _) (fun q e => by cases e)
  have B4 := B0.drew.below b4 (Nat.le_refl _)
  refine hK _ _ ⟨fun _ => ⟨B4.cells.2.2.2.1, B4.cells.2.2.2.2.1⟩, ?_⟩
  clear hK
  conv => arg 9; simp [Act.put]
  refine wpAnyR_one (i := 7) (by kernel_rfl) rfl (fun K hK => ?_)
  refine step_joinW tyL rfl (.const (.slice none 0 0)) (.tmp 11) rfl W4.heap.size an none ao 0 0 an ac [] at1 (Nat.zero_add _) rfl rfl (Ft.nil _ _ _) (ha.below B4.bel (Nat.le_refl _)) ha2 (by omega) (Nat.le_refl _) ?_
  intro p2 pc2 W5 f2 gr5 at5
  rw [List.nil_append] at f2
  have b5 : Below W4.heap.size W4 W5 := (Below.refl _ _).grown gr5 (Nat.le_refl _) (fun q e => by cases e)
  have B5 := B4.below b5 (Nat.le_refl _)
  refine hK _ _ ⟨fun _ => ⟨B5.cells.2.2.2.1, B5.cells.2.2.2.2.1⟩, ?_⟩
  clear hK
  conv => arg 9; simp [Act.put]
  refine wpAnyR_take (i := 8) (v := .agg #[.slice p1 sn pc1, .slice p2 an pc2]) rfl (by kernel_rfl) (by kernel_rfl) (by kernel_rfl) (by kernel_rfl) (fun _ _ _ h => h) (Or.inl ⟨by rfl, fun V hV => ?_⟩) ?_ ?_
  · obtain ⟨j3, j4⟩ := hV
    go_simp
  · exact ⟨B5.cells.2.2.2.1, B5.cells.2.2.2.2.1⟩
  conv => arg 9; simp [Act.put]
  refine wpAnyR_one (i := 9) (by kernel_rfl) rfl (fun K hK => ?_)
  go_simp
  refine hK _ _ ⟨fun _ => ⟨B5.cells.2.2.2.1, B5.cells.2.2.2.2.1⟩, ?_⟩
  clear hK
  conv => arg 9; simp [Act.put]
  refine wpAnyR_one (i := 10) (by kernel_rfl) rfl (fun K hK => ?_)
  have y3 := B5.cells.2.2.2.1
  have y4 := B5.cells.2.2.2.2.1
  have g3 := B5.fr 3
  have B6 := B5.set 3 (.slice p1 sn pc1) _ _ _ _ _ _ rfl
  have B7 := B6.set 4 (.slice p2 an pc2) _ _ _ _ _ _ rfl
  have y4' := B6.cells.2.2.2.2.1
  have g4' := B6.fr 4
  go_simp
  refine hK _ _ ⟨fun h => absurd h (by decide), ?_⟩
  clear hK
  refine wpAnyR_done (by kernel_rfl) ?_ _
  have s3 : w.heap.size + 1 < W3.heap.size := (Array.getElem?_eq_some_iff.1 B0.rr).1
  have sz4 : W3.heap.size ≤ W4.heap.size := b4.size
  have sz5 := b5.size
  have k7 : Kb (fun b => w.heap.size + 2 ≤ b) W5 ((W5.setCell ⟨w.heap.size, 3, none⟩ (.slice p1 sn pc1)).setCell ⟨w.heap.size, 4, none⟩ (.slice p2 an pc2)) := Kb.trans ⟨(set1 W5 w.heap.size 3 _).size, fun b hb _ => heap_setCell_other _ _ _ _ (by simp; omega)⟩ ⟨(set1 _ w.heap.size 4 _).size, fun b hb _ => heap_setCell_other _ _ _ _ (by simp; omega)⟩
  have F1 := (f1.below b5 (Nat.le_refl _)).kb k7 (fun a e => (ft_lt (f1.below b5 (Nat.le_refl _)) a e).1)
  have F2 := (f2.mono (B' := w.heap.size + 2) (by omega)).kb k7 (fun a e => by have := (ft_lt f2 a e).1; omega)
  have h12 : ∀ a a', p1 = some a → p2 = some a' → a.block ≠ a'.block := fun a a' e e' => by
    have h1 := (ft_lt f1 a e).2
    have h2 := (ft_lt f2 a' e').1
    omega
  have szw : w.heap.size + 1 < ((W5.setCell ⟨w.heap.size, 3, none⟩ (.slice p1 sn pc1)).setCell ⟨w.heap.size, 4, none⟩ (.slice p2 an pc2)).heap.size := by have := k7.size; omega
  clear B0 B4 B5 B6 y3 y4 g3 y4' g4' f1 f2 k7 b4 b5 hs ha sz4 s3 gr4 gr5 at4 at5 hsr har sz5
  generalize (W5.setCell ⟨w.heap.size, 3, none⟩ (.slice p1 sn pc1)).setCell ⟨w.heap.size, 4, none⟩ (.slice p2 an pc2) = W6 at *
  have hrm := hk.room
  rw [hL] at hrm
  have B8 := B7.set 5 (.slice none 0 0) _ _ _ _ _ _ rfl
  have k8 : Kb (fun b => w.heap.size + 2 ≤ b) W6 (W6.setCell ⟨w.heap.size, 5, none⟩ (.slice none 0 0)) := ⟨(set1 W6 w.heap.size 5 _).size, fun b hb _ => heap_setCell_other _ _ _ _ (by simp; omega)⟩
  have G1 := F1.kb k8 (fun a e => (ft_lt F1 a e).1)
  have G2 := F2.kb k8 (fun a e => (ft_lt F2 a e).1)
  have HG : Hid (Ft 3 (W6.setCell ⟨w.heap.size, 5, none⟩ (.slice none 0 0)) (w.heap.size + 2) p1 sn pc1 sh ∧ Ft 2 (W6.setCell ⟨w.heap.size, 5, none⟩ (.slice none 0 0)) (w.heap.size + 2) p2 an pc2 at1 ∧ ∀ a a', p1 = some a → p2 = some a' → a.block ≠ a'.block) := ⟨G1, G2, h12⟩
  have szw8 : w.heap.size + 1 < (W6.setCell ⟨w.heap.size, 5, none⟩ (.slice none 0 0)).heap.size := by have := k8.size; omega
  have HIH : Hid (∀ (y : Tr d) (c0 c1 c2 c3 c4 c5 : Value) (V : World), Tv w0 d y [c0, c1, c2, c3, c4, c5] → Below w0.heap.size w0 V → Calls Tryz.prog 53 #[.agg #[c0, c1, c2, c3, c4, c5]] V fun e w' => OwT d y V e w') := ih
  clear F1 F2 G1 G2 h12 k8 hs2 ha2 ih
  obtain ⟨j0, j1, j2, j3, j4, j5⟩ := B7.cells
  have f5 := B7.fr 5
  go_upto_region 4 with fail
  clear j0 j1 j2 j3 j4 j5 f5 B7 szw
  generalize W6.setCell ⟨w.heap.size, 5, none⟩ (.slice none 0 0) = W7 at *
  go_wp2
  go_loopw [4] (fun i V => ∃ (j : Nat) (o : Option Addr) (c : Nat) (vals : List Value), j ≤ L ∧ i = .int .i64 (j : Nat) ∧ Cb w V (.int .i64 k) (.string t) (.int .i64 n) (.slice p1 sn pc1) (.slice p2 an pc2) (.slice o j c) ∧ Mid (w.heap.size + 2) W7.heap.size W7 V ∧ Ko d ks V W7.heap.size j o c vals) (fun i _ => L - (intOf i).toNat)
  case atStart => exact ⟨0, none, 0, [], Nat.zero_le _, rfl, B8, Mid.refl _ _ _, Ko.begin _ _ _ _⟩
  case round =>
    obtain ⟨j, o, c, vals, hj, rfl, B, M, C⟩ := hrel
    clear B8
    by_cases hlt : j < L
    · have t3 : decide ((j : Int) < (L : Int)) = true := by simp; omega
      have bj : (j : Int) < (L : Int) := by omega
      obtain ⟨kb, koff, rfl, hkl, hel⟩ := hk.cells (by omega)
      obtain ⟨y, hy⟩ : ∃ y, ks[j]? = some y := ⟨ks[j]'(by omega), by simp⟩
      obtain ⟨c0, c1, c2, c3, c4, c5, hv, q0, q1, q2, q3, q4, q5⟩ := hel j y hy
      obtain ⟨k1, t1, n1, xo, xn, xc, zo, zn, zc, uo, un, uc, ev⟩ := hv.form
      injection ev with ev0 ev
      injection ev with ev1 ev
      injection ev with ev2 ev
      injection ev with ev3 ev
      injection ev with ev4 ev
      injection ev with ev5 ev
      subst ev0 ev1 ev2 ev3 ev4 ev5
      have HC : Hid (∀ V, Below w0.heap.size w0 V → V.cell? ⟨kb, koff + j * 6, none⟩ = some (.int .i64 k1) ∧ V.cell? ⟨kb, koff + j * 6 + 1, none⟩ = some (.string t1) ∧ V.cell? ⟨kb, koff + j * 6 + 2, none⟩ = some (.int .i64 n1) ∧ V.cell? ⟨kb, koff + j * 6 + 3, none⟩ = some (.slice xo xn xc) ∧ V.cell? ⟨kb, koff + j * 6 + 4, none⟩ = some (.slice zo zn zc) ∧ V.cell? ⟨kb, koff + j * 6 + 5, none⟩ = some (.slice uo un uc)) := fun V b =>
        ⟨(b.cell (p := ⟨kb, koff + j * 6, none⟩) hkl).trans q0, (b.cell (p := ⟨kb, koff + j * 6 + 1, none⟩) hkl).trans q1, (b.cell (p := ⟨kb, koff + j * 6 + 2, none⟩) hkl).trans q2, (b.cell (p := ⟨kb, koff + j * 6 + 3, none⟩) hkl).trans q3, (b.cell (p := ⟨kb, koff + j * 6 + 4, none⟩) hkl).trans q4, (b.cell (p := ⟨kb, koff + j * 6 + 5, none⟩) hkl).trans q5⟩
      clear q0 q1 q2 q3 q4 q5 hel
      have HS0 := And.intro B.cells.2.2.2.2.2 (HC.out _ (hw.trans (B.bel.mono hw.size)))
      go_upto_region 7 with fail
      refine wp_region_R (fun V => V.cell? ⟨w.heap.size, 5, none⟩ = some (.slice o j c) ∧ V.cell? ⟨kb, koff + j * 6, none⟩ = some (.int .i64 k1) ∧ V.cell? ⟨kb, koff + j * 6 + 1, none⟩ = some (.string t1) ∧ V.cell? ⟨kb, koff + j * 6 + 2, none⟩ = some (.int .i64 n1) ∧ V.cell? ⟨kb, koff + j * 6 + 3, none⟩ = some (.slice xo xn xc) ∧ V.cell? ⟨kb, koff + j * 6 + 4, none⟩ = some (.slice zo zn zc) ∧ V.cell? ⟨kb, koff + j * 6 + 5, none⟩ = some (.slice uo un uc)) (fun i => decide (i ≠ 10)) (by kernel_rfl) ?_
      refine wpAnyR_take (i := 0) (v := .pointer (some ⟨w.heap.size, 5, none⟩)) rfl (by kernel_rfl) (by kernel_rfl) (by kernel_rfl) (by kernel_rfl) (fun _ _ _ h => h) (Or.inl ⟨by rfl, fun V hV => ?_⟩) ?_ ?_
      · obtain ⟨g0, g1, g2, g3, g4, g5, g6⟩ := hV
        go_simp
      · exact HS0
      conv => arg 9; simp [Act.put]
      refine wpAnyR_take (i := 1) (v := .slice o j c) rfl (by kernel_rfl) (by kernel_rfl) (by kernel_rfl) (by kernel_rfl) (fun _ _ _ h => h) (Or.inl ⟨by rfl, fun V hV => ?_⟩) ?_ ?_
      · obtain ⟨g0, g1, g2, g3, g4, g5, g6⟩ := hV
        go_simp
      · exact HS0
      conv => arg 9; simp [Act.put]
      refine wpAnyR_take (i := 2) (v := .slice (some ⟨kb, koff, none⟩) L kc) rfl (by kernel_rfl) (by kernel_rfl) (by kernel_rfl) (by kernel_rfl) (fun _ _ _ h => h) (Or.inl ⟨by rfl, fun V hV => ?_⟩) ?_ ?_
      · obtain ⟨g0, g1, g2, g3, g4, g5, g6⟩ := hV
        go_simp
      · exact HS0
      conv => arg 9; simp [Act.put]
      refine wpAnyR_take (i := 3) (v := .int .i64 (j : Nat)) rfl (by kernel_rfl) (by kernel_rfl) (by kernel_rfl) (by kernel_rfl) (fun _ _ _ h => h) (Or.inl ⟨by rfl, fun V hV => ?_⟩) ?_ ?_
      · obtain ⟨g0, g1, g2, g3, g4, g5, g6⟩ := hV
        go_simp
      · exact HS0
      conv => arg 9; simp [Act.put]
      refine wpAnyR_take (i := 4) (v := .pointer (some ⟨kb, koff + j * 6, none⟩)) rfl (by kernel_rfl) (by kernel_rfl) (by kernel_rfl) (by kernel_rfl) (fun _ _ _ h => h) (Or.inl ⟨by rfl, fun V hV => ?_⟩) ?_ ?_
      · obtain ⟨g0, g1, g2, g3, g4, g5, g6⟩ := hV
        go_simp
      · exact HS0
      conv => arg 9; simp [Act.put]
      refine wpAnyR_take (i := 5) (v := .agg #[.int .i64 k1, .string t1, .int .i64 n1, .slice xo xn xc, .slice zo zn zc, .slice uo un uc]) rfl (by kernel_rfl) (by kernel_rfl) (by kernel_rfl) (by kernel_rfl) (fun _ _ _ h => h) (Or.inl ⟨by rfl, fun V hV => ?_⟩) ?_ ?_
      · obtain ⟨g0, g1, g2, g3, g4, g5, g6⟩ := hV
        go_simp
      · exact HS0
      conv => arg 9; simp [Act.put]
      refine wpAnyR_one (i := 6) (by kernel_rfl) rfl (fun K hK => ?_)
      go_simp
      go_wp2_with (go_at_call 53; (with_reducible refine (HIH.out y _ _ _ _ _ _ _ hv (hw.trans (B.drew.bel.mono hw.size))).mono ?_); rintro e W8 ⟨v0, v1, v2, v3, v4, v5, rfl, tq8, b8⟩; have B8 := B.drew.below b8 (Nat.le_refl _); have HS8 := And.intro B8.cells.2.2.2.2.2 (HC.out _ (hw.trans (B8.bel.mono hw.size))); refine hK _ _ ⟨fun _ => HS8, ?_⟩; clear hK)
      conv => arg 9; simp [Act.put]
      obtain ⟨k3, t3, n3, xo3, xn3, xc3, zo3, zn3, zc3, uo3, un3, uc3, ev⟩ := tq8.tv.form
      injection ev with ev0 ev
      injection ev with ev1 ev
      injection ev with ev2 ev
      injection ev with ev3 ev
      injection ev with ev4 ev
      injection ev with ev5 ev
      subst ev0 ev1 ev2 ev3 ev4 ev5
      have bX := box_below W8 (.cells #[.int .i64 k3, .string t3, .int .i64 n3, .slice xo3 xn3 xc3, .slice zo3 zn3 zc3, .slice uo3 un3 uc3] 31)
      have BX := B8.below bX (Nat.le_refl _)
      have RX := allocNew W8 (.cells #[.int .i64 k3, .string t3, .int .i64 n3, .slice xo3 xn3 xc3, .slice zo3 zn3 zc3, .slice uo3 un3 uc3] 31)
      refine wpAnyR_one (i := 7) (by kernel_rfl) rfl (fun K hK => ?_)
      go_simp
      refine hK _ _ ⟨fun _ => And.intro BX.cells.2.2.2.2.2 (HC.out _ (hw.trans (BX.bel.mono hw.size))), ?_⟩
      clear hK
      conv => arg 9; simp [Act.put]
      refine wpAnyR_one (i := 8) (by kernel_rfl) rfl (fun K hK => ?_)
      have b8' : Below wr.heap.size wr W8 := ⟨b8.os, b8.tape, b8.output, b8.size, b8.block⟩
      have ownX : (W8.alloc (.cells #[.int .i64 k3, .string t3, .int .i64 n3, .slice xo3 xn3 xc3, .slice zo3 zn3 zc3, .slice uo3 un3 uc3] 31)).ownsRow W7.heap.size 31 6 (.slice o j c) j vals := own_kb (own_kb C.own (Kb.of_below (Q := fun _ => True) b8' fun b _ hl => hl) fun _ _ => trivial) (Kb.of_below (Q := fun _ => True) bX fun b _ hl => hl) fun _ _ => trivial
      have szX : W7.heap.size ≤ (W8.alloc (.cells #[.int .i64 k3, .string t3, .int .i64 n3, .slice xo3 xn3 xc3, .slice zo3 zn3 zc3, .slice uo3 un3 uc3] 31)).heap.size := by have := M.size; have := b8'.size; have := bX.size; omega
      refine step_joinQ rfl (.tmp 25) (.tmp 31) rfl W7.heap.size W8.heap.size o j c vals _ _ _ _ _ _ (by simp [Value.oneCell']) rfl rfl ownX RX (by omega) szX ?_
      intro o' c' V3 hown hgr hat
      obtain ⟨B3, B4, M4, K4⟩ := own_step szw8 hy B M C b8' tq8 hown hgr hat
      refine hK _ _ ⟨fun _ => And.intro B3.cells.2.2.2.2.2 (HC.out _ (hw.trans (B3.bel.mono hw.size))), ?_⟩
      clear hK
      (try (conv => arg 9; simp [Act.put]))
      refine wpAnyR_one (i := 9) (by kernel_rfl) rfl (fun K hK => ?_)
      go_simp
      refine hK _ _ ⟨fun _ => And.intro B3.cells.2.2.2.2.2 (HC.out _ (hw.trans (B3.bel.mono hw.size))), ?_⟩
      clear hK
      (try (conv => arg 9; simp [Act.put]))
      refine wpAnyR_one (i := 10) (by kernel_rfl) rfl (fun K hK => ?_)
      have z5 := B3.cells.2.2.2.2.2
      have zf := B3.fr 5
      go_simp
      refine hK _ _ ⟨fun h => absurd h (by decide), ?_⟩
      clear hK
      refine wpAnyR_done (by kernel_rfl) ?_ _
      clear HS0 HS8 B8 BX RX bX b8 b8' tq8 ownX hown hgr hat B3 z5 zf hv
      generalize V3.setCell ⟨w.heap.size, 5, none⟩ (.slice o' (j + 1) c') = W9 at *
      go_wp2
      go_roundw
      case rel => exact ⟨j + 1, o', c', _, by omega, by go_num, B4, M4, K4⟩
      case measure => simp [intOf]; omega
    · obtain rfl : j = L := by omega
      have t3 : decide ((j : Int) < (j : Int)) = false := by simp
      obtain ⟨e0, e1, e2, e3, e4, e5⟩ := B.cells
      obtain ⟨⟨⟨a0, a1⟩, a2, ⟨a3, a4⟩, a5, ⟨a6, a7⟩, a8, ⟨a9, a10⟩, a11, ⟨a12, a13⟩, a14, ⟨a15, a16⟩, a17⟩, ⟨f0, f1, f2, f3, f4, f5⟩, gr⟩ := box6_store wr (w.heap.size + 1) _ _ _ _ _ _ (.int .i64 k) (.string t) (.int .i64 n) (.slice p1 sn pc1) (.slice p2 an pc2) (.slice o j c) _ B.rr
      have HTW : Hid (_) := own_end hL HG.out.1 HG.out.2.1 HG.out.2.2 hkb hnb ht hrm M C szw8 gr
      have Hbl : Hid (_) := below_of_grown B.bel gr (Nat.le_succ _)
      clear gr B M C hL hrm hkb hnb ht hw hj HIH hk hk2
      go_wp2
      (try simp only [Exit.inBlock, Exit.then])
      refine bodyPost_ret (v := .agg #[.int .i64 k, .string t, .int .i64 n, .slice p1 sn pc1, .slice p2 an pc2, .slice o j c]) (by simp [results, Tryz.results53]; go_simp) rfl ?_
      exact ⟨_, _, _, _, _, _, rfl, HTW.out, Hbl.out⟩
theorem rown_top : ∀ (d : Nat) (x : Tr d) (c0 c1 c2 c3 c4 c5 : Value) (w0 w : World), Tv w0 d x [c0, c1, c2, c3, c4, c5] → Below w0.heap.size w0 w → Calls Tryz.prog 53 #[.agg #[c0, c1, c2, c3, c4, c5]] w fun e w' => OwT d x w e w'
  | 0, _, _, _, _, _, _, _, _, _, h, _ => h.elim
  | d + 1, x, c0, c1, c2, c3, c4, c5, w0, w, h, hw => by
    obtain ⟨⟨so, sn, sc, ao, an, ac, ko, kc, ev, h1, h2, h3, h4, h5, h6⟩, hk, hn, ht⟩ := h
    injection ev with ev0 ev
    injection ev with ev1 ev
    injection ev with ev2 ev
    injection ev with ev3 ev
    injection ev with ev4 ev
    injection ev with ev5 ev
    subst ev0 ev1 ev2 ev3 ev4 ev5
    refine (rown_one d x.ks x.nd.k x.nd.n x.nd.t x.nd.sh x.nd.at' so ao ko sn sc an ac x.ks.length kc w0 w hw rfl h1 h2 h3 h4 h5 h6 ht hk hn (fun y c0 c1 c2 c3 c4 c5 V hy hV => rown_top d y c0 c1 c2 c3 c4 c5 w0 V hy hV)).mono ?_
    rintro e w' ⟨v0, v1, v2, v3, v4, v5, he, hN, hb⟩
    exact ⟨v0, v1, v2, v3, v4, v5, he, hN.tq, hb⟩
theorem rown_any (d : Nat) (x : Tr (d + 1)) (c0 c1 c2 c3 c4 c5 : Value) (w : World) (h : Tv w (d + 1) x [c0, c1, c2, c3, c4, c5]) : Calls Tryz.prog 53 #[.agg #[c0, c1, c2, c3, c4, c5]] w fun e w' => OwP d x w e w' := by
  obtain ⟨⟨so, sn, sc, ao, an, ac, ko, kc, ev, h1, h2, h3, h4, h5, h6⟩, hk, hn, ht⟩ := h
  injection ev with ev0 ev
  injection ev with ev1 ev
  injection ev with ev2 ev
  injection ev with ev3 ev
  injection ev with ev4 ev
  injection ev with ev5 ev
  subst ev0 ev1 ev2 ev3 ev4 ev5
  exact rown_one d x.ks x.nd.k x.nd.n x.nd.t x.nd.sh x.nd.at' so ao ko sn sc an ac x.ks.length kc w w (Below.refl _ _) rfl h1 h2 h3 h4 h5 h6 ht hk hn (fun y c0 c1 c2 c3 c4 c5 V hy hV => rown_top d y c0 c1 c2 c3 c4 c5 w V hy hV)
end Go.Proofs.YtiahilelcppfgaaGreat
