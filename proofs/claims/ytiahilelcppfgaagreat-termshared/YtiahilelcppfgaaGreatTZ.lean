
/- What all Term statements ask first. -/

import Derived.Test.YtiahilelcppfgaaGreatTY

import Derived.Deep.RegionHeld3

namespace Go.Proofs.YtiahilelcppfgaaGreat

open Go.RowKit

set_option linter.unusedVariables false

theorem kq_one (V : World) (b : Nat) (d : Nat) (y : Tr d) (c0 c1 c2 c3 c4 c5 : Value) (hy : Tv V d y [c0, c1, c2, c3, c4, c5]) (h : V.heap[b]? = some (.cells #[c0, c1, c2, c3, c4, c5] 31 (0, 0))) : Kq (Tv V d) V (some ⟨b, 0, none⟩) [y] := by
  obtain ⟨q0, q1, q2, q3, q4, q5⟩ := box6 h
  refine ⟨by show 1 * 104 ≤ _; omega, fun _ => ⟨b, 0, rfl, (Array.getElem?_eq_some_iff.1 h).1, fun i z hz => ?_⟩⟩
  match i, hz with
  | 0, hz =>
    injection hz with hz
    subst hz
    exact ⟨c0, c1, c2, c3, c4, c5, hy, q0, q1, q2, q3, q4, q5⟩
  | n + 1, hz => simp at hz
theorem kq_three (V : World) (b : Nat) (d : Nat) (x y z : Tr d) (a0 a1 a2 a3 a4 a5 b0 b1 b2 b3 b4 b5 c0 c1 c2 c3 c4 c5 : Value) (hx : Tv V d x [a0, a1, a2, a3, a4, a5]) (hy : Tv V d y [b0, b1, b2, b3, b4, b5]) (hz : Tv V d z [c0, c1, c2, c3, c4, c5]) (h : V.heap[b]? = some (.cells #[a0, a1, a2, a3, a4, a5, b0, b1, b2, b3, b4, b5, c0, c1, c2, c3, c4, c5] 31 (0, 0))) : Kq (Tv V d) V (some ⟨b, 0, none⟩) [x, y, z] := by
  have at' : ∀ j v, (#[a0, a1, a2, a3, a4, a5, b0, b1, b2, b3, b4, b5, c0, c1, c2, c3, c4, c5] : Array Value)[j]? = some v → V.cell? ⟨b, j, none⟩ = some v := fun j v e => (cell_of_row V b j _ _ _ h).trans e
  refine ⟨by show 3 * 104 ≤ _; omega, fun _ => ⟨b, 0, rfl, (Array.getElem?_eq_some_iff.1 h).1, fun i u hu => ?_⟩⟩
  match i, hu with
  | 0, hu =>
    injection hu with hu
    subst hu
    exact ⟨_, _, _, _, _, _, hx, at' 0 _ rfl, at' 1 _ rfl, at' 2 _ rfl, at' 3 _ rfl, at' 4 _ rfl, at' 5 _ rfl⟩
  | 1, hu =>
    injection hu with hu
    subst hu
    exact ⟨_, _, _, _, _, _, hy, at' 6 _ rfl, at' 7 _ rfl, at' 8 _ rfl, at' 9 _ rfl, at' 10 _ rfl, at' 11 _ rfl⟩
  | 2, hu =>
    injection hu with hu
    subst hu
    exact ⟨_, _, _, _, _, _, hz, at' 12 _ rfl, at' 13 _ rfl, at' 14 _ rfl, at' 15 _ rfl, at' 16 _ rfl, at' 17 _ rfl⟩
  | n + 3, hu => simp at hu
/-- The fork, its kids in block b, the list of its first kid's one kid in block a. -/
theorem tv_fk (V : World) (a b : Nat) (ha : V.heap[a]? = some (.cells #[.int .i64 20, .string ⟨#[43]⟩, .int .i64 0, .slice none 0 0, .slice none 0 0, .slice none 0 0] 31 (0, 0))) (hb : V.heap[b]? = some (.cells #[.int .i64 24, .string ⟨#[]⟩, .int .i64 0, .slice none 0 0, .slice none 0 0, .slice (some ⟨a, 0, none⟩) 1 1, .int .i64 20, .string ⟨#[37]⟩, .int .i64 0, .slice none 0 0, .slice none 0 0, .slice none 0 0, .int .i64 20, .string ⟨#[35]⟩, .int .i64 0, .slice none 0 0, .slice none 0 0, .slice none 0 0] 31 (0, 0))) : Tv V 3 tFk [.int .i64 45, .string ⟨#[]⟩, .int .i64 0, .slice none 0 0, .slice none 0 0, .slice (some ⟨b, 0, none⟩) 3 3] :=
  tv_node V 2 45 [tIns, tPd 1 ⟨#[37]⟩, tPd 1 ⟨#[35]⟩] (some ⟨b, 0, none⟩) 3 (by decide) (kq_three V b 2 _ _ _ _ _ _ _ _ _ _ _ _ _ _ _ _ _ _ _ _ _ (tv_node V 1 24 [tPd 0 ⟨#[43]⟩] (some ⟨a, 0, none⟩) 1 (by decide) (kq_one V a 1 _ _ _ _ _ _ _ (tv_pr V 0 _ (by decide)) ha) ⟨fun e => (by cases e), Nat.le_refl _, by decide⟩) (tv_pr V 1 _ (by decide)) (tv_pr V 1 _ (by decide)) hb) ⟨fun e => (by cases e), Nat.le_refl _, by decide⟩
/-- The fork in its box s, and what it leads to. -/
structure Bg (w V : World) (a b s : Nat) : Prop where
  bel : Below w.heap.size w V
  ra : V.heap[a]? = some (.cells #[.int .i64 20, .string ⟨#[43]⟩, .int .i64 0, .slice none 0 0, .slice none 0 0, .slice none 0 0] 31 (0, 0))
  rb : V.heap[b]? = some (.cells #[.int .i64 24, .string ⟨#[]⟩, .int .i64 0, .slice none 0 0, .slice none 0 0, .slice (some ⟨a, 0, none⟩) 1 1, .int .i64 20, .string ⟨#[37]⟩, .int .i64 0, .slice none 0 0, .slice none 0 0, .slice none 0 0, .int .i64 20, .string ⟨#[35]⟩, .int .i64 0, .slice none 0 0, .slice none 0 0, .slice none 0 0] 31 (0, 0))
  rs : V.heap[s]? = some (.cells #[.int .i64 45, .string ⟨#[]⟩, .int .i64 0, .slice none 0 0, .slice none 0 0, .slice (some ⟨b, 0, none⟩) 3 3] 31 (0, 0))
theorem Bg.below {w V V' : World} {a b s B : Nat} (h : Bg w V a b s) (k : Below B V V') (hB : V.heap.size ≤ B) : Bg w V' a b s :=
  ⟨h.bel.trans (k.mono (Nat.le_trans h.bel.size hB)), (k.block a (Nat.lt_of_lt_of_le (Array.getElem?_eq_some_iff.1 h.ra).1 hB)).trans h.ra, (k.block b (Nat.lt_of_lt_of_le (Array.getElem?_eq_some_iff.1 h.rb).1 hB)).trans h.rb, (k.block s (Nat.lt_of_lt_of_le (Array.getElem?_eq_some_iff.1 h.rs).1 hB)).trans h.rs⟩
theorem Bg.tv {w V : World} {a b s : Nat} (h : Bg w V a b s) : Tv V 3 tFk [.int .i64 45, .string ⟨#[]⟩, .int .i64 0, .slice none 0 0, .slice none 0 0, .slice (some ⟨b, 0, none⟩) 3 3] := tv_fk V a b h.ra h.rb
theorem szN_fk : szN 3 tFk = 5 := by unfold szN; rw [szO_fk]; rfl
theorem szD_fk : szD 3 tFk = 3 := by unfold szD; rw [szO_fk]; rfl
set_option linter.unusedSimpArgs false in
set_option maxHeartbeats 8000000 in
set_option maxRecDepth 100000 in
theorem begun13_any (w : World) : Calls Tryz.prog 9 #[] w fun e w' => e = .returned (.bool true) ∧ Below w.heap.size w w' := by
  have hp := lprim_any
  have hbg : ∀ w1 w2 w3 : World, Below w.heap.size w w1 → Below (w1.heap.size + 1) (w1.alloc (.cells #[.int .i64 20, .string ⟨#[43]⟩, .int .i64 0, .slice none 0 0, .slice none 0 0, .slice none 0 0] 31)) w2 → Below w2.heap.size w2 w3 → Bg w ((w3.alloc (.cells #[.int .i64 24, .string ⟨#[]⟩, .int .i64 0, .slice none 0 0, .slice none 0 0, .slice (some ⟨w1.heap.size, 0, none⟩) 1 1, .int .i64 20, .string ⟨#[37]⟩, .int .i64 0, .slice none 0 0, .slice none 0 0, .slice none 0 0, .int .i64 20, .string ⟨#[35]⟩, .int .i64 0, .slice none 0 0, .slice none 0 0, .slice none 0 0] 31)).alloc (.cells #[.int .i64 45, .string ⟨#[]⟩, .int .i64 0, .slice none 0 0, .slice none 0 0, .slice (some ⟨w3.heap.size, 0, none⟩) 3 3] 31)) w1.heap.size w3.heap.size (w3.heap.size + 1) := fun w1 w2 w3 b1 b2 b3 => by
    have k1 := box_below w1 (.cells #[.int .i64 20, .string ⟨#[43]⟩, .int .i64 0, .slice none 0 0, .slice none 0 0, .slice none 0 0] 31)
    have r1 := allocNew w1 (.cells #[.int .i64 20, .string ⟨#[43]⟩, .int .i64 0, .slice none 0 0, .slice none 0 0, .slice none 0 0] 31)
    have s2 := b2.size
    simp only [World.size_alloc] at s2
    have s3 := b3.size
    have ra := (b3.block w1.heap.size (by omega)).trans ((b2.block w1.heap.size (by omega)).trans r1)
    have kB := box_below w3 (.cells #[.int .i64 24, .string ⟨#[]⟩, .int .i64 0, .slice none 0 0, .slice none 0 0, .slice (some ⟨w1.heap.size, 0, none⟩) 1 1, .int .i64 20, .string ⟨#[37]⟩, .int .i64 0, .slice none 0 0, .slice none 0 0, .slice none 0 0, .int .i64 20, .string ⟨#[35]⟩, .int .i64 0, .slice none 0 0, .slice none 0 0, .slice none 0 0] 31)
    have rB := allocNew w3 (.cells #[.int .i64 24, .string ⟨#[]⟩, .int .i64 0, .slice none 0 0, .slice none 0 0, .slice (some ⟨w1.heap.size, 0, none⟩) 1 1, .int .i64 20, .string ⟨#[37]⟩, .int .i64 0, .slice none 0 0, .slice none 0 0, .slice none 0 0, .int .i64 20, .string ⟨#[35]⟩, .int .i64 0, .slice none 0 0, .slice none 0 0, .slice none 0 0] 31)
    have kT := box_below (w3.alloc (.cells #[.int .i64 24, .string ⟨#[]⟩, .int .i64 0, .slice none 0 0, .slice none 0 0, .slice (some ⟨w1.heap.size, 0, none⟩) 1 1, .int .i64 20, .string ⟨#[37]⟩, .int .i64 0, .slice none 0 0, .slice none 0 0, .slice none 0 0, .int .i64 20, .string ⟨#[35]⟩, .int .i64 0, .slice none 0 0, .slice none 0 0, .slice none 0 0] 31)) (.cells #[.int .i64 45, .string ⟨#[]⟩, .int .i64 0, .slice none 0 0, .slice none 0 0, .slice (some ⟨w3.heap.size, 0, none⟩) 3 3] 31)
    have rT := allocNew (w3.alloc (.cells #[.int .i64 24, .string ⟨#[]⟩, .int .i64 0, .slice none 0 0, .slice none 0 0, .slice (some ⟨w1.heap.size, 0, none⟩) 1 1, .int .i64 20, .string ⟨#[37]⟩, .int .i64 0, .slice none 0 0, .slice none 0 0, .slice none 0 0, .int .i64 20, .string ⟨#[35]⟩, .int .i64 0, .slice none 0 0, .slice none 0 0, .slice none 0 0] 31)) (.cells #[.int .i64 45, .string ⟨#[]⟩, .int .i64 0, .slice none 0 0, .slice none 0 0, .slice (some ⟨w3.heap.size, 0, none⟩) 3 3] 31)
    rw [World.size_alloc] at rT kT
    exact ⟨(b1.trans ((k1.trans ((b2.trans (b3.mono (by omega))).mono (by omega))).mono b1.size)).trans ((kB.trans (kT.mono (by omega))).mono (by have := b1.size; omega)), (kT.block _ (by omega)).trans ((kB.block _ (by omega)).trans ra), (kT.block _ (by omega)).trans rB, rT⟩
  go_enter Tryz.func9, Tryz.ntmps9
  go_wp2_with (first
    | (go_at_call 27; (with_reducible refine (hp ⟨#[43]⟩ _).mono ?_); rintro e w1 ⟨rfl, b1⟩)
    | (go_at_call 27; (with_reducible refine (hp ⟨#[37]⟩ _).mono ?_); rintro e w2 ⟨rfl, b2⟩)
    | (go_at_call 27; (with_reducible refine (hp ⟨#[35]⟩ _).mono ?_); rintro e w3 ⟨rfl, b3⟩
       have X0 := hbg w1 w2 w3 b1 (by simpa using b2) b3
       clear hbg b1 b2 b3
       obtain ⟨g0, g1, g2, g3, g4, g5⟩ := box6 X0.rs)
    | (go_at_call 13; (with_reducible refine (tsize_any 3 tFk _ _ _ _ _ _ _ X0.tv).mono ?_); rintro e w4 ⟨rfl, b4⟩
       rw [szN_fk, szD_fk]
       have X4 := X0.below b4 (Nat.le_refl _)
       obtain ⟨h0, h1, h2, h3, h4, h5⟩ := box6 X4.rs)
    | (go_at_call 14; (with_reducible refine (copy_ok 3 tFk _ _ _ _ _ _ _ X4.tv szO_fk).mono ?_); rintro e w5 ⟨v0, v1, v2, v3, v4, v5, rfl, tw, b5⟩
       have X5 := X4.below b5 (Nat.le_refl _)
       have tu := tw.tv
       clear tw
       obtain ⟨k3, t3, n3, xo3, xn3, xc3, zo3, zn3, zc3, uo3, un3, uc3, ev⟩ := tu.form
       injection ev with ev0 ev
       injection ev with ev1 ev
       injection ev with ev2 ev
       injection ev with ev3 ev
       injection ev with ev4 ev
       injection ev with ev5 ev
       subst ev0 ev1 ev2 ev3 ev4 ev5
       have kU := box_below w5 (.cells #[.int .i64 k3, .string t3, .int .i64 n3, .slice xo3 xn3 xc3, .slice zo3 zn3 zc3, .slice uo3 un3 uc3] 31)
       have X6 := X5.below kU (Nat.le_refl _)
       have T6 := Tv.below kU (Nat.le_refl _) _ _ _ tu
       have RU := allocNew w5 (.cells #[.int .i64 k3, .string t3, .int .i64 n3, .slice xo3 xn3 xc3, .slice zo3 zn3 zc3, .slice uo3 un3 uc3] 31)
       obtain ⟨i0, i1, i2, i3, i4, i5⟩ := box6 X6.rs)
    | (go_at_call 12; (with_reducible refine (tmay_any 3 tFk _ _ _ _ _ _ 3 _ X6.tv).mono ?_); rintro e w7 ⟨rfl, b7⟩
       rw [may_fk3]
       have X7 := X6.below b7 (Nat.le_refl _)
       obtain ⟨j0, j1, j2, j3, j4, j5⟩ := box6 X7.rs)
    | (go_at_call 12; (with_reducible refine (tmay_any 3 tFk _ _ _ _ _ _ 1 _ X7.tv).mono ?_); rintro e w8 ⟨rfl, b8⟩
       rw [may_fk1]
       have X8 := X7.below b8 (Nat.le_refl _))
    | (go_at_call 27; (with_reducible refine (hp ⟨#[43, 43]⟩ _).mono ?_); rintro e w9 ⟨rfl, b9⟩
       have X9 := X8.below b9 (Nat.le_refl _))
    | (go_at_call 12; (with_reducible refine (tmay_any 1 (tPd 0 ⟨#[43, 43]⟩) _ _ _ _ _ _ 3 _ (tv_pr _ 0 _ (by decide))).mono ?_); rintro e W ⟨rfl, b10⟩
       rw [may_no]
       have XW := X9.below b10 (Nat.le_refl _)))
  have szs : w3.heap.size + 1 < W.heap.size := (Array.getElem?_eq_some_iff.1 XW.rs).1
  have TW := XW.tv
  have k79 := b7.trans ((b8.trans ((b9.trans (b10.mono b9.size)).mono b8.size)).mono b7.size)
  have TU := Tv.below k79 (Nat.le_refl _) _ _ _ T6
  have RW := (k79.block w5.heap.size (by simp)).trans RU
  have luW := (Array.getElem?_eq_some_iff.1 RW).1
  have bw := XW.bel
  have rs := XW.rs
  clear X0 X4 X5 X6 X7 X8 X9 XW b4 b5 kU T6 RU b7 b8 b9 b10 tu k79 g0 g1 g2 g3 g4 g5 h0 h1 h2 h3 h4 h5 i0 i1 i2 i3 i4 i5 j0 j1 j2 j3 j4 j5
  generalize w3.heap.size = b at *
  generalize w5.heap.size = u at *
  obtain ⟨S, hS⟩ : ∃ S : World → Prop, S = fun V => V.cell? ⟨b + 1, 0, none⟩ = some (.int .i64 45) ∧ V.cell? ⟨b + 1, 1, none⟩ = some (.string ⟨#[]⟩) ∧ V.cell? ⟨b + 1, 2, none⟩ = some (.int .i64 0) ∧ V.cell? ⟨b + 1, 3, none⟩ = some (.slice none 0 0) ∧ V.cell? ⟨b + 1, 4, none⟩ = some (.slice none 0 0) ∧ V.cell? ⟨b + 1, 5, none⟩ = some (.slice (some ⟨b, 0, none⟩) 3 3) ∧ V.cell? ⟨u, 0, none⟩ = some (.int .i64 k3) ∧ V.cell? ⟨u, 1, none⟩ = some (.string t3) ∧ V.cell? ⟨u, 2, none⟩ = some (.int .i64 n3) ∧ V.cell? ⟨u, 3, none⟩ = some (.slice xo3 xn3 xc3) ∧ V.cell? ⟨u, 4, none⟩ = some (.slice zo3 zn3 zc3) ∧ V.cell? ⟨u, 5, none⟩ = some (.slice uo3 un3 uc3) ∧ Below W.heap.size W V := ⟨_, rfl⟩
  have al : ∀ V, Below W.heap.size W V → S V := fun V k => by
    rw [hS]
    obtain ⟨a0, a1, a2, a3, a4, a5⟩ := box6 ((k.block (b + 1) szs).trans rs)
    obtain ⟨c0, c1, c2, c3, c4, c5⟩ := box6 ((k.block u luW).trans RW)
    exact ⟨a0, a1, a2, a3, a4, a5, c0, c1, c2, c3, c4, c5, k⟩
  have bl : ∀ V, S V → Below W.heap.size W V := fun V h => by
    rw [hS] at h
    exact h.2.2.2.2.2.2.2.2.2.2.2.2
  have S0 : S W := al W (Below.refl _ _)
  have dr : ∀ V, S V → S V.drew := fun V h => al _ (bl V h).drew
  have hsm : ∀ V, S V → Calls Tryz.prog 15 #[.agg #[.int .i64 45, .string ⟨#[]⟩, .int .i64 0, .slice none 0 0, .slice none 0 0, .slice (some ⟨b, 0, none⟩) 3 3], .agg #[.int .i64 k3, .string t3, .int .i64 n3, .slice xo3 xn3 xc3, .slice zo3 zn3 zc3, .slice uo3 un3 uc3]] V fun e w' => e = .returned (.bool true) ∧ S w' := fun V h => (tsame_any 3 tFk 3 tFk _ _ _ _ _ _ _ _ _ _ _ _ V (Tv.below (bl V h) (Nat.le_refl _) _ _ _ TW) (Tv.below (bl V h) (Nat.le_refl _) _ _ _ TU)).mono fun e w' ⟨e1, e2⟩ => ⟨by rw [e1, szO_fk, alk_self]; rfl, al _ ((bl V h).trans (e2.mono (bl V h).size))⟩
  have hsn : ∀ V, S V → Calls Tryz.prog 15 #[.agg #[.int .i64 45, .string ⟨#[]⟩, .int .i64 0, .slice none 0 0, .slice none 0 0, .slice (some ⟨b, 0, none⟩) 3 3], .agg #[.int .i64 20, .string ⟨#[43]⟩, .int .i64 0, .slice none 0 0, .slice none 0 0, .slice none 0 0]] V fun e w' => e = .returned (.bool false) ∧ S w' := fun V h => (tsame_any 3 tFk 1 (tPd 0 ⟨#[43]⟩) _ _ _ _ _ _ _ _ _ _ _ _ V (Tv.below (bl V h) (Nat.le_refl _) _ _ _ TW) (tv_pr _ 0 _ (by decide))).mono fun e w' ⟨e1, e2⟩ => ⟨by rw [e1, alk_no, Bool.and_false, Bool.and_false], al _ ((bl V h).trans (e2.mono (bl V h).size))⟩
  have hpr : ∀ V, S V → Calls Tryz.prog 27 #[.string ⟨#[43]⟩] V fun e w' => e = .returned (.agg #[.int .i64 20, .string ⟨#[43]⟩, .int .i64 0, .slice none 0 0, .slice none 0 0, .slice none 0 0]) ∧ S w' := fun V h => (lprim_any _ V).mono fun e w' ⟨e1, e2⟩ => ⟨e1, al _ ((bl V h).trans (e2.mono (bl V h).size))⟩
  have hcl : ∀ V, S V → Calls Tryz.prog 11 #[.agg #[.int .i64 45, .string ⟨#[]⟩, .int .i64 0, .slice none 0 0, .slice none 0 0, .slice (some ⟨b, 0, none⟩) 3 3]] V fun e w' => e = .returned (.int .i64 3) ∧ S w' := fun V h => (class_any 45 0 ⟨#[]⟩ _ _ _ V).mono fun e w' ⟨e1, e2⟩ => ⟨e1, al _ ((bl V h).trans (e2.mono (bl V h).size))⟩
  have fin : ∀ V, S V → Below w.heap.size w V := fun V h => bw.trans ((bl V h).mono bw.size)
  clear al bl TW TU RW rs bw
  subst hS
  go_region_held3 (fun V => V.cell? ⟨b + 1, 0, none⟩ = some (.int .i64 45) ∧ V.cell? ⟨b + 1, 1, none⟩ = some (.string ⟨#[]⟩) ∧ V.cell? ⟨b + 1, 2, none⟩ = some (.int .i64 0) ∧ V.cell? ⟨b + 1, 3, none⟩ = some (.slice none 0 0) ∧ V.cell? ⟨b + 1, 4, none⟩ = some (.slice none 0 0) ∧ V.cell? ⟨b + 1, 5, none⟩ = some (.slice (some ⟨b, 0, none⟩) 3 3) ∧ V.cell? ⟨u, 0, none⟩ = some (.int .i64 k3) ∧ V.cell? ⟨u, 1, none⟩ = some (.string t3) ∧ V.cell? ⟨u, 2, none⟩ = some (.int .i64 n3) ∧ V.cell? ⟨u, 3, none⟩ = some (.slice xo3 xn3 xc3) ∧ V.cell? ⟨u, 4, none⟩ = some (.slice zo3 zn3 zc3) ∧ V.cell? ⟨u, 5, none⟩ = some (.slice uo3 un3 uc3) ∧ Below W.heap.size W V) (first | exact S0 | exact dr _ S0 | assumption | exact dr _ (by assumption))
    (first
      | (go_at_call 15; (with_reducible refine (hsm _ (by assumption)).mono ?_); rintro e wa ⟨rfl, Sa⟩)
      | (go_at_call 27; (with_reducible refine (hpr _ (by assumption)).mono ?_); rintro e wb ⟨rfl, Sb'⟩)
      | (go_at_call 15; (with_reducible refine (hsn _ (by assumption)).mono ?_); rintro e wc ⟨rfl, Sc⟩)
      | (go_at_call 11; (with_reducible refine (hcl _ (by assumption)).mono ?_); rintro e wd ⟨rfl, Sd⟩))
  go_wp2
  go_ret
  exact ⟨rfl, fin _ (by assumption)⟩
end Go.Proofs.YtiahilelcppfgaaGreat
