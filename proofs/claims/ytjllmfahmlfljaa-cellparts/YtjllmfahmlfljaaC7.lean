
/- Contract: the pieces of an array. -/

import Derived.Test.YtjllmfahmlfljaaC6

namespace Go.Proofs.Ytjllmfahmlfljaa

open Go.RowKit

set_option linter.unusedVariables false

set_option maxHeartbeats 2000000 in
theorem pieces_may (so ao : Option Addr) (sn sc an ac : Nat) (sh at' : List Int) (n : Int) (w : World) (h : Rd w so sn sh) (g : Rd w ao an at') (h0 : mayA sh at' ≠ 0) :
    Calls Try.prog 23 #[.agg #[.slice so sn sc, .slice ao an ac], .int .i64 n] w fun e w' => e = .returned (.tuple #[.slice none 0 0, .agg #[.slice none 0 0, .slice none 0 0], .int .i64 1]) ∧ Below w.heap.size w w' := by
  have I0 := it_start w so sn sc ao an ac sh at' h g
  have hm := mayA_any so ao sn sc an ac sh at' _ I0.s I0.a
  have h0' : (mayA sh at' != 0) = true := by simpa using h0
  clear h0
  go_enter Try.func23, Try.ntmps23
  go_wp2_with (go_at_call 30; refine hm.mono ?_; rintro e W1 ⟨rfl, h1⟩; have I1 := I0.below h1; obtain ⟨p0, p1, pr1, _, _, pb⟩ := I1; obtain ⟨k0, k1, z0, z1⟩ := box2 pr1)
  (try simp only [Exit.inBlock, Exit.then])
  refine bodyPost_ret (v := .tuple #[.slice none 0 0, .agg #[.slice none 0 0, .slice none 0 0], .int .i64 1]) (by simp [results, Try.results23]; go_simp) rfl ?_
  exact ⟨rfl, by first | exact pb | exact below_set2 _ _ _ _ pb (by omega) (Nat.le_refl _)⟩

set_option maxHeartbeats 2000000 in
theorem pieces_zero (so ao : Option Addr) (sn sc an ac : Nat) (sh at' : List Int) (w : World) (h : Rd w so sn sh) (g : Rd w ao an at') (h0 : mayA sh at' = 0) :
    Calls Try.prog 23 #[.agg #[.slice so sn sc, .slice ao an ac], .int .i64 0] w fun e w' => e = .returned (.tuple #[.slice none 0 0, .agg #[.slice none 0 0, .slice none 0 0], .int .i64 10]) ∧ Below w.heap.size w w' := by
  have I0 := it_start w so sn sc ao an ac sh at' h g
  have hm := mayA_any so ao sn sc an ac sh at' _ I0.s I0.a
  rw [h0] at hm
  clear h0
  go_enter Try.func23, Try.ntmps23
  go_wp2_with (go_at_call 30; refine hm.mono ?_; rintro e W1 ⟨rfl, h1⟩; have I1 := I0.below h1; obtain ⟨p0, p1, pr1, _, _, pb⟩ := I1; obtain ⟨k0, k1, z0, z1⟩ := box2 pr1)
  (try simp only [Exit.inBlock, Exit.then])
  refine bodyPost_ret (v := .tuple #[.slice none 0 0, .agg #[.slice none 0 0, .slice none 0 0], .int .i64 10]) (by simp [results, Try.results23]; go_simp) rfl ?_
  exact ⟨rfl, by first | exact pb | exact below_set2 _ _ _ _ pb (by omega) (Nat.le_refl _)⟩

theorem Pf.keep {w w' : World} {B : Nat} {row : Option Nat} {ao : Option Addr} {k cap : Nat} {p : Nat → Int × Int} (h : Pf w B ao k cap p) (hg : w.grownBy w' row) (hne : ∀ g, B ≤ g → some g ≠ row) : Pf w' B ao k cap p := by
  refine ⟨h.own.1, ?_⟩
  rcases h.own.2 with h0 | ⟨g, c, cur, e, hB2, hg2, r⟩
  · exact .inl h0
  · exact .inr ⟨g, c, cur, e, hB2, by rw [hg.block g (Array.getElem?_eq_some_iff.1 hg2).1 (hne g hB2)]; exact hg2, r⟩

/-- How long what is tried is. -/
def lng (n : Int) : Nat := min n.natAbs 4097

set_option maxHeartbeats 4000000 in
set_option maxRecDepth 20000 in
theorem pieces_ok (so ao : Option Addr) (sn sc an ac : Nat) (sh at' : List Int) (n : Int) (w : World) (h : Rd w so sn sh) (hs : Sl so sn sc) (g : Rd w ao an at') (h0 : mayA sh at' = 0) (hn0 : n ≠ 0) (n1 : -9223372036854775808 ≤ n) (n2 : n ≤ 9223372036854775807) :
    Calls Try.prog 23 #[.agg #[.slice so sn sc, .slice ao an ac], .int .i64 n] w fun e w' => ∃ K p po pc o1 n1 c1 o2 n2 c2 E S A, e = .returned (.tuple #[.slice po K pc, .agg #[.slice o1 n1 c1, .slice o2 n2 c2], .int .i64 E]) ∧ Pf w' w.heap.size po K pc p ∧ Ft 3 w' w.heap.size o1 n1 c1 S ∧ Ft 2 w' w.heap.size o2 n2 c2 A ∧ Below w.heap.size w w' ∧ Pcs (tal sh).toNat n K p ∧
      ((0 < K ∧ E = 0 ∧ S = [] ∧ A = []) ∨ (K = 0 ∧ E = mayF ((lng n : Int) :: sh.drop 1) ∧ S = filS ((lng n : Int) :: sh.drop 1) ∧ A = filA ((lng n : Int) :: sh.drop 1) 0)) := by
  have hl := h.len
  have hsn : sn ≤ 8 := by rw [← hl]; exact (mayF_zero (mayA_zero h0).1).2.1
  have I0 := it_start w so sn sc ao an ac sh at' h g
  have hm := mayA_any so ao sn sc an ac sh at' _ I0.s I0.a
  have hi := fun W (x : Rd W so sn sh) (y : Rd W ao an at') => items_any so ao sn sc an ac sh at' W x y
  have hit := fun W (x : Rd W so sn sh) => item4_any so ao sn sc an ac sh W x hs
  have hmg := fun W => magnitude_any n W n1 n2
  rw [h0] at hm
  have hie : itm sh at' = tal sh := if_pos h0
  rw [hie] at hi
  have bd := tal_bd (mayA_zero h0).1
  obtain ⟨N, hN⟩ : ∃ N : Nat, tal sh = N := ⟨(tal sh).toNat, by omega⟩
  rw [hN] at hi bd ⊢
  simp only [Int.toNat_natCast]
  have hpo := fun W => piecesOf_any N n W (by omega) hn0 n1 n2
  have t0 : (n == 0) = false := by simpa using hn0
  obtain ⟨q, hq⟩ : ∃ q, n.natAbs = q := ⟨_, rfl⟩
  rw [hq] at hmg
  obtain ⟨L, hL⟩ : ∃ L, lng n = L := ⟨_, rfl⟩
  have hL' : L = min q 4097 := by rw [← hL, ← hq]; rfl
  rw [hL]
  have i1 : IntKind.i64.wrap (L : Int) = (L : Int) := wrapIn _ (by omega)
  have hL4 : L ≤ 4097 := by omega
  have HL : Hid (L = min q 4097) := hL'
  clear hL hL' hq hn0 hN h0 hie
  have hcs : ((4097 : Int) < (q : Int) ∧ (L : Int) = 4097) ∨ (¬ (4097 : Int) < (q : Int) ∧ (L : Int) = q) := by
    have := HL.out
    by_cases c : (4097 : Int) < (q : Int)
    · exact .inl ⟨c, by omega⟩
    · exact .inr ⟨c, by omega⟩
  rcases hcs with ⟨u1, u2⟩ | ⟨u1, u2⟩
  all_goals
    rw [u2] at i1 ⊢
    have b1 := i1
    go_enter Try.func23, Try.ntmps23
    go_wp2_with (first
      | (go_at_call 30; refine hm.mono ?_; rintro e W1 ⟨rfl, h1⟩; have I1 := I0.below h1; obtain ⟨p0, p1, _, _, _, _⟩ := I1)
      | (go_at_call 50; refine (hi _ (I0.below h1).s (I0.below h1).a).mono ?_; rintro e W2 ⟨rfl, h2⟩; have I2 := (I0.below h1).below h2; obtain ⟨q0, q1, _, _, _, _⟩ := I2)
      | (go_at_call 53; refine (hpo _).mono ?_; rintro e W3 ⟨K, p, po, pc, rfl, P3, h3, S3⟩; have I3 := ((I0.below h1).below h2).below h3; obtain ⟨r0, r1, rr, _, _, pb⟩ := I3; obtain ⟨y0, y1, z0, z1⟩ := box2 rr)
      | (go_at_call 54; refine (hmg _).mono ?_; rintro e w' ⟨rfl, hw⟩; rw [hw]; clear hw w')
      | (go_at_call 51; refine (hit _ (((I0.below h1).below h2).below h3).s).mono ?_; rintro e W4 ⟨o4, c4, rfl, f4, h4⟩)
      | (go_at_call 52; refine (insert0_any o4 (sn - 1) c4 (sh.drop 1) _ W4.heap.size W3.heap.size _ (f4.below (box_below W4 _) (Nat.le_refl _)) (allocNew W4 _) (fun b off e => by have := (f4.at b off e).2; omega) (by omega) (by have := h4.size; simp; omega) (by omega) (by omega)).mono ?_; rintro e W5 ⟨o5, c5, rfl, f5, h5⟩)
      | (go_at_call 42; refine (fill_any o5 (sn - 1 + 1) c5 _ 0 _ f5.rd f5.sl (by omega) (by omega)).mono ?_; rintro e W6 ⟨o1, m1, c1, o2, m2, c2, rfl, f6, g6, _, h6⟩))
    · (try simp only [Exit.inBlock, Exit.then])
      refine bodyPost_ret (v := .tuple #[.slice po K pc, .agg #[.slice none 0 0, .slice none 0 0], .int .i64 0]) (by simp [results, Try.results23]; go_simp) rfl ?_
      have hK : 0 < K := by omega
      have pb' : Below w.heap.size w _ := below_set2 0 1 (.slice none 0 0) (.slice none 0 0) pb (Nat.le_succ _) (Nat.le_refl _)
      have s2 := (((I0.below h1).below h2).bel).size
      have r2 := (Array.getElem?_eq_some_iff.1 ((I0.below h1).below h2).r).1
      refine ⟨K, p, po, pc, none, 0, 0, none, 0, 0, 0, [], [], rfl, ?_, Ft.nil _ _ _, Ft.nil _ _ _, pb', S3, .inl ⟨hK, rfl, rfl, rfl⟩⟩
      exact (P3.keep (set2 W3 (w.heap.size + 1) 0 1 (.slice none 0 0) (.slice none 0 0)) (fun g hg => by intro e; cases e; omega)).mono (by omega)
    · have hK : K = 0 := by omega
      subst hK
      have B6 := allocNew W6 (.cells #[.slice o1 m1 c1, .slice o2 m2 c2] 25)
      have s4 := h4.size
      have s5 := h5.size
      have s6 := h6.size
      simp only [World.size_alloc] at s5
      have r3 := (Array.getElem?_eq_some_iff.1 rr).1
      have h7 : Below W3.heap.size W3 (W6.alloc (.cells #[.slice o1 m1 c1, .slice o2 m2 c2] 25)) := (((h4.alloc s4 _).trans h5).trans (h6.mono (by omega))).alloc (by omega) _
      have rr7 := (h7.block _ r3).trans rr
      have F1 := f6.below (box_below W6 (.cells #[.slice o1 m1 c1, .slice o2 m2 c2] 25)) (Nat.le_refl _)
      have F2 := g6.below (box_below W6 (.cells #[.slice o1 m1 c1, .slice o2 m2 c2] 25)) (Nat.le_refl _)
      have pb7 : Below w.heap.size w (W6.alloc (.cells #[.slice o1 m1 c1, .slice o2 m2 c2] 25)) := pb.trans (h7.mono pb.size)
      obtain ⟨x0, x1, _, _⟩ := box2 B6
      obtain ⟨v0, v1, v2, v3⟩ := box2 rr7
      have hsz : w.heap.size + 1 < W5.heap.size := by omega
      clear B6 f4 h4 f5 h5 f6 g6 h6 I0 hm hi hit hmg hpo p0 p1 q0 q1 r0 r1 rr y0 y1 z0 z1 P3 h7 rr7
      obtain ⟨W7, hW7⟩ : ∃ W7, W6.alloc (.cells #[.slice o1 m1 c1, .slice o2 m2 c2] 25) = W7 := ⟨_, rfl⟩
      rw [hW7] at F1 F2 pb7 x0 x1 v0 v1 v2 v3 ⊢
      clear hW7
      go_region
      all_goals
        go_wp2
        (try simp only [Exit.inBlock, Exit.then])
        refine bodyPost_ret (v := .tuple #[.slice none 0 0, .agg #[.slice o1 m1 c1, .slice o2 m2 c2], .int .i64 (mayF (_ :: sh.tail))]) (by simp [results, Try.results23]; go_simp; rfl) rfl ?_
        have a1 := F1.at
        have a2 := F2.at
        have k := set2 W7.drew (w.heap.size + 1) 0 1 (.slice o1 m1 c1) (.slice o2 m2 c2)
        refine ⟨0, p, none, 0, o1, m1, c1, o2, m2, c2, _, _, _, rfl, Pf.nil _ _ _, (((F1.below (Below.refl _ W7).drew (Nat.le_refl _)).keep1 k (fun b off e => ?_)).mono ?_), (((F2.below (Below.refl _ W7).drew (Nat.le_refl _)).keep1 k (fun b off e => ?_)).mono ?_), below_set2 _ _ _ _ pb7.drew (by omega) (Nat.le_refl _), S3, .inr ⟨rfl, by rw [List.drop_one], rfl, rfl⟩⟩
        · have := (a1 b off e).1; intro e'; cases e'; omega
        · omega
        · have := (a2 b off e).1; intro e'; cases e'; omega
        · omega

/-- All that Pieces tells. -/
def PcT (sh at' : List Int) (n : Int) (K : Nat) (p : Nat → Int × Int) (E : Int) (S A : List Int) : Prop :=
  (mayA sh at' ≠ 0 ∧ E = 1 ∧ K = 0 ∧ S = [] ∧ A = []) ∨ (mayA sh at' = 0 ∧ n = 0 ∧ E = 10 ∧ K = 0 ∧ S = [] ∧ A = []) ∨
  (mayA sh at' = 0 ∧ n ≠ 0 ∧ Pcs (tal sh).toNat n K p ∧ ((0 < K ∧ E = 0 ∧ S = [] ∧ A = []) ∨ (K = 0 ∧ E = mayF ((lng n : Int) :: sh.drop 1) ∧ S = filS ((lng n : Int) :: sh.drop 1) ∧ A = filA ((lng n : Int) :: sh.drop 1) 0)))

theorem pieces_any (so ao : Option Addr) (sn sc an ac : Nat) (sh at' : List Int) (n : Int) (w : World) (h : Rd w so sn sh) (hs : Sl so sn sc) (g : Rd w ao an at') (n1 : -9223372036854775808 ≤ n) (n2 : n ≤ 9223372036854775807) :
    Calls Try.prog 23 #[.agg #[.slice so sn sc, .slice ao an ac], .int .i64 n] w fun e w' => ∃ K p po pc o1 n1 c1 o2 n2 c2 E S A, e = .returned (.tuple #[.slice po K pc, .agg #[.slice o1 n1 c1, .slice o2 n2 c2], .int .i64 E]) ∧ Pf w' w.heap.size po K pc p ∧ Ft 3 w' w.heap.size o1 n1 c1 S ∧ Ft 2 w' w.heap.size o2 n2 c2 A ∧ Below w.heap.size w w' ∧ PcT sh at' n K p E S A := by
  by_cases h0 : mayA sh at' = 0
  · by_cases hn : n = 0
    · subst hn
      exact (pieces_zero so ao sn sc an ac sh at' w h g h0).mono fun e w' ⟨h1, h2⟩ => ⟨0, fun _ => (0, 0), none, 0, none, 0, 0, none, 0, 0, 10, [], [], h1, Pf.nil _ _ _, Ft.nil _ _ _, Ft.nil _ _ _, h2, .inr (.inl ⟨h0, rfl, rfl, rfl, rfl, rfl⟩)⟩
    · exact (pieces_ok so ao sn sc an ac sh at' n w h hs g h0 hn n1 n2).mono fun e w' ⟨K, p, po, pc, o1, m1, c1, o2, m2, c2, E, S, A, h1, h2, h3, h4, h5, h6, h7⟩ => ⟨K, p, po, pc, o1, m1, c1, o2, m2, c2, E, S, A, h1, h2, h3, h4, h5, .inr (.inr ⟨h0, hn, h6, h7⟩)⟩
  · exact (pieces_may so ao sn sc an ac sh at' n w h g h0).mono fun e w' ⟨h1, h2⟩ => ⟨0, fun _ => (0, 0), none, 0, none, 0, 0, none, 0, 0, 1, [], [], h1, Pf.nil _ _ _, Ft.nil _ _ _, Ft.nil _ _ _, h2, .inl ⟨h0, rfl, rfl, rfl, rfl⟩⟩
end Go.Proofs.Ytjllmfahmlfljaa
