
/- Contract of the document's own Item. -/

import Derived.Test.YtkplfnajhinkiaaR3

namespace Go.Proofs.Ytkplfnajhinkiaa

open Go.RowKit

set_option linter.unusedVariables false

theorem refAt_any3 (so ao : Option Addr) (sn sc an ac : Nat) (sh at' : List Int) (w : World) (h : Rd w so sn sh) (hs : Sl so sn sc) (g : Rd w ao an at') (gs : Sl ao an ac) (h0 : mayA sh at' = 0) {N z : Nat} (hN : tal sh = N) (hz : itmZ sh at' = z) (j : Nat) (hj : j < N) :
    Calls Try.prog 135 #[.agg #[.slice so sn sc, .slice ao an ac], .int .i64 (j : Nat)] w fun e w' => ∃ o1 c1 o2 c2, e = .returned (.agg #[.slice o1 (sn - 1) c1, .slice o2 z c2]) ∧ Ft 3 w' w.heap.size o1 (sn - 1) c1 (sh.drop 1) ∧ Ft 2 w' w.heap.size o2 z c2 ((at'.drop (j * z)).take z) ∧ Below w.heap.size w w' := by
  obtain ⟨m1, m2⟩ := mayA_zero h0
  obtain ⟨t1, t2⟩ := items_all h0 hN hz
  have hl := at_len h0
  have gl := g.len
  have tb := tal_bd m1
  have hb : (j + 1) * z ≤ an := by
    have : (j + 1) * z ≤ N * z := Nat.mul_le_mul_right _ hj
    omega
  by_cases hz0 : 0 < z
  · exact refAt_some so ao sn sc an ac sh at' w h hs g gs j z (mayF_tail m1) (t2 (by omega)) (by omega) (by omega) hb hz0
  · exact refAt_zero so ao sn sc an ac sh at' w h hs g gs j z (mayF_tail m1) (t2 (by omega)) (by omega) (by omega) hb (by omega)

set_option maxHeartbeats 4000000 in
theorem refItem_any (so ao : Option Addr) (sn sc an ac : Nat) (sh at' : List Int) (i : Int) (w : World) (h : Rd w so sn sh) (hs : Sl so sn sc) (g : Rd w ao an at') (gs : Sl ao an ac) (hi1 : -9223372036854775808 ≤ i) (hi2 : i ≤ 9223372036854775807) :
    Calls Try.prog 77 #[.agg #[.slice so sn sc, .slice ao an ac], .int .i64 i] w fun e w' => ∃ o1 n1 c1 o2 n2 c2, e = .returned (.tuple #[.agg #[.slice o1 n1 c1, .slice o2 n2 c2], .int .i64 (itmE sh at' i)]) ∧ Rd w' o1 n1 (itmS sh at' i) ∧ Rd w' o2 n2 (itmA sh at' i) ∧ Below w.heap.size w w' := by
  have I0 := it_start w so sn sc ao an ac sh at' h g
  have hm := refMayA_any so ao sn sc an ac sh at' _ I0.s I0.a
  have ht := fun W (x : Rd W so sn sh) (y : Rd W ao an at') => refItems_any so ao sn sc an ac sh at' W x y
  by_cases h0 : mayA sh at' = 0
  · obtain ⟨m1, m2⟩ := mayA_zero h0
    have tb := tal_bd m1
    obtain ⟨N, hN⟩ : ∃ N : Nat, tal sh = N := ⟨(tal sh).toNat, by omega⟩
    rw [h0] at hm
    rw [show itm sh at' = tal sh from if_pos h0, hN] at ht
    have hN4 : N ≤ 4096 := by omega
    by_cases hi : i < -tal sh ∨ tal sh ≤ i
    · have e0 := itmE_out h0 hi
      obtain ⟨e1, e2⟩ := itm_no (sh := sh) (at' := at') (i := i) (by rw [e0]; omega)
      rw [e0, e1, e2]
      rw [hN] at hi
      clear h0 hN m1 m2 tb e0 e1 e2
      have hw : (i < 0 ∧ decide (i + (N : Int) < 0) = true ∧ i + (N : Int) < 0) ∨ (0 ≤ i ∧ decide (i < 0) = false ∧ decide ((N : Int) ≤ i) = true) := by
        simp only [decide_eq_true_eq, decide_eq_false_iff_not]; omega
      clear hi
      rcases hw with ⟨d1, d2, d3⟩ | ⟨d1, d2, d3⟩
      all_goals
        go_enter Try.func77, Try.ntmps77
        go_wp2_with (first
          | (go_at_call 70; refine hm.mono ?_; rintro e w1 ⟨rfl, h1⟩; have I1 := I0.below h1; obtain ⟨p0, p1, _, _, _, _⟩ := I1)
          | (go_at_call 76; refine (ht _ (I0.below h1).s (I0.below h1).a).mono ?_; rintro e w2 ⟨rfl, h2⟩; have I2 := (I0.below h1).below h2; obtain ⟨c0, c1, z0, z1⟩ := box2 I2.r))
        (try simp only [Exit.inBlock, Exit.then])
        refine bodyPost_ret (v := .tuple #[.agg #[.slice none 0 0, .slice none 0 0], .int .i64 13]) (by rw [results_cell_tmp rfl]; go_simp) rfl ?_
        exact ⟨none, 0, 0, none, 0, 0, rfl, Rd.nil _, Rd.nil _, below_set2 _ _ _ _ I2.bel (by omega) (Nat.le_refl _)⟩
    · have e0 := itmE_in h0 hi
      obtain ⟨e1, e2⟩ := itm_yes e0
      obtain ⟨z, hz⟩ : ∃ z, itmZ sh at' = z := ⟨_, rfl⟩
      obtain ⟨j, hj⟩ : ∃ j, itmJ sh i = j := ⟨_, rfl⟩
      rw [e0, e1, e2, hz, hj]
      have hj0 : (i = (j : Int) ∨ (i < 0 ∧ i + (N : Int) = (j : Int))) ∧ j < N := by
        unfold itmJ at hj
        rw [hN] at hj hi
        by_cases c : i < 0
        · rw [if_pos c] at hj; omega
        · rw [if_neg c] at hj; omega
      have ca := fun W (x : Rd W so sn sh) (y : Rd W ao an at') => refAt_any3 so ao sn sc an ac sh at' W x hs y gs h0 hN hz j hj0.2
      have hj1 : (j : Int) < (N : Int) := by omega
      have hj2 : j < N := hj0.2
      have hjj := hj0.1
      clear h0 hN m1 m2 tb e0 e1 e2 hi hz hj hj0
      rcases hjj with rfl | ⟨d1, d2⟩
      all_goals
        go_enter Try.func77, Try.ntmps77
        go_wp2_with (first
          | (go_at_call 70; refine hm.mono ?_; rintro e w1 ⟨rfl, h1⟩; have I1 := I0.below h1; obtain ⟨p0, p1, _, _, _, _⟩ := I1)
          | (go_at_call 76; refine (ht _ (I0.below h1).s (I0.below h1).a).mono ?_; rintro e w2 ⟨rfl, h2⟩; have I2 := (I0.below h1).below h2; have q0 := I2.c0; have q1 := I2.c1)
          | (go_at_call 135; refine (ca _ I2.s I2.a).mono ?_; rintro e w3 ⟨o1, c1, o2, c2, rfl, f1, f2, h3⟩; have r1 := f1.rd; have r2 := f2.rd; have I3 := I2.below h3; have k3b := box_below w3 (.cells #[.slice o1 (sn - 1) c1, .slice o2 z c2] 55); have b3 := bx_new (sc := c1) (ac := c2) r1 r2; have X1 := b3.c0; have X2 := b3.c1; have I4 := I3.below k3b; obtain ⟨c00, c01, z0, z1⟩ := box2 I4.r))
        (try simp only [Exit.inBlock, Exit.then])
        refine bodyPost_ret (v := .tuple #[.agg #[.slice o1 (sn - 1) c1, .slice o2 z c2], .int .i64 0]) (by rw [results_cell_tmp rfl]; go_simp) rfl ?_
        refine ⟨o1, sn - 1, c1, o2, z, c2, rfl, ?_, ?_, below_set2 _ _ _ _ I4.bel (by omega) (Nat.le_refl _)⟩
        · have a1 := f1.at
          have sz := (Array.getElem?_eq_some_iff.1 I2.r).1
          exact ((f1.below k3b (Nat.le_refl _)).keep1 (set2 _ _ _ _ _ _) (fun b off e => by have := (a1 b off e).1; intro e'; cases e'; omega)).rd
        · have a2 := f2.at
          have sz := (Array.getElem?_eq_some_iff.1 I2.r).1
          exact ((f2.below k3b (Nat.le_refl _)).keep1 (set2 _ _ _ _ _ _) (fun b off e => by have := (a2 b off e).1; intro e'; cases e'; omega)).rd
  · have e0 := itmE_may (i := i) h0
    obtain ⟨e1, e2⟩ := itm_no (sh := sh) (at' := at') (i := i) (by rw [e0]; omega)
    rw [e0, e1, e2]
    have h0' : (mayA sh at' != 0) = true := by simpa using h0
    clear h0 e0 e1 e2
    go_enter Try.func77, Try.ntmps77
    go_wp2_with (go_at_call 70; refine hm.mono ?_; rintro e w1 ⟨rfl, h1⟩; have I1 := I0.below h1; obtain ⟨c0, c1, z0, z1⟩ := box2 I1.r)
    (try simp only [Exit.inBlock, Exit.then])
    refine bodyPost_ret (v := .tuple #[.agg #[.slice none 0 0, .slice none 0 0], .int .i64 1]) (by rw [results_cell_tmp rfl]; go_simp) rfl ?_
    exact ⟨none, 0, 0, none, 0, 0, rfl, Rd.nil _, Rd.nil _, below_set2 _ _ _ _ I1.bel (by omega) (Nat.le_refl _)⟩
end Go.Proofs.Ytkplfnajhinkiaa
