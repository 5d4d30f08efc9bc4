
/- Contract of the document's own At: an item that there is. -/

import Derived.Test.YtkplfnajhinkiaaR2

namespace Go.Proofs.Ytkplfnajhinkiaa

open Go.RowKit

set_option linter.unusedVariables false

set_option maxHeartbeats 4000000 in
set_option maxRecDepth 20000 in
theorem refAt_some (so ao : Option Addr) (sn sc an ac : Nat) (sh at' : List Int) (w : World) (h : Rd w so sn sh) (hs : Sl so sn sc) (g : Rd w ao an at') (gs : Sl ao an ac) (j z : Nat) (hm : mayF (sh.drop 1) = 0) (hz : pr (sh.drop 1) = z) (hj4 : j ≤ 4096) (han : an ≤ 4096) (hb : (j + 1) * z ≤ an) (hz1 : 0 < z) :
    Calls Try.prog 135 #[.agg #[.slice so sn sc, .slice ao an ac], .int .i64 (j : Nat)] w fun e w' => ∃ o1 c1 o2 c2, e = .returned (.agg #[.slice o1 (sn - 1) c1, .slice o2 z c2]) ∧ Ft 3 w' w.heap.size o1 (sn - 1) c1 (sh.drop 1) ∧ Ft 2 w' w.heap.size o2 z c2 ((at'.drop (j * z)).take z) ∧ Below w.heap.size w w' := by
  have hgle := gs.le
  have hgmx := gs.max
  have I0 := it_start w so sn sc ao an ac sh at' h g
  have cr := fun W (x : Rd W so sn sh) => refRest_any so ao sn sc an ac sh W x hs
  have cz := fun W o c (x : Rd W o (sn - 1) (sh.drop 1)) => refSize_any o (sn - 1) c (sh.drop 1) W x
  rw [hm, sizeF_ok hm, hz] at cz
  clear hm hz h
  obtain ⟨lo, hlo⟩ : ∃ lo : Nat, j * z = lo := ⟨_, rfl⟩
  obtain ⟨hi, hhi⟩ : ∃ hi : Nat, lo + z = hi := ⟨_, rfl⟩
  have m1 : ((j : Int) * (z : Int)) = (lo : Int) := by rw [← hlo]; simp
  have m2 : ((lo : Int) + (z : Int)) = (hi : Int) := by rw [← hhi]; simp
  rw [Nat.add_mul, Nat.one_mul, hlo, hhi] at hb
  rw [hlo]
  have HH : Hid (lo + z = hi) := hhi
  have HZ : Hid (hi - lo = z) := by show _ = _; omega
  have b1 : (lo : Int) ≤ (hi : Int) := by omega
  have b2 : (hi : Int) ≤ (ac : Int) := by omega
  have b4 : lo < ac := by omega
  have b5 : ¬ ac = lo := by omega
  have b6 : (hi : Int) ≤ 4096 := by omega
  have b7 : (z : Int) ≤ 4096 := by omega
  obtain ⟨b, off, rfl, _, _⟩ := g.cells (by omega)
  clear hlo hhi g
  go_enter Try.func135, Try.ntmps135
  go_wp2_with (first
    | (go_at_call 154; refine (cr _ I0.s).mono ?_; rintro e W1 ⟨o1, c1, rfl, f1, k1⟩; have I1 := I0.below k1; have q0 := I1.c0; have q1 := I1.c1; have fn := Ft.nil 2 W1 W1.heap.size)
    | (go_at_call 53; refine (cz _ _ _ f1.rd).mono ?_; rintro e w' ⟨rfl, hw⟩; rw [hw]; clear hw w')
    | (at_builtin; refine wpList_joinT tyL rfl _ _ rfl W1.heap.size _ _ _ _ _ _ _ _ rfl rfl fn (I1.a.part HH.out hb) ⟨fun e => (by cases e), by omega, by omega⟩ (by omega) (Nat.le_refl _) ?_; intro o2 c2 w2 f2 k2; rw [Nat.zero_add, List.nil_append] at f2; obtain ⟨p0, p1, z0, z1⟩ := box2 (I1.below k2).r))
  (try simp only [Exit.inBlock, Exit.then])
  refine bodyPost_ret (v := .agg #[.slice o1 (sn - 1) c1, .slice o2 (hi - lo) c2]) (by simp [results, Try.results135]; go_simp) rfl ?_
  have sz := (Array.getElem?_eq_some_iff.1 I1.r).1
  have a1 := f1.at
  have a2 := f2.at
  have s0 : w.heap.size + 1 + 1 ≤ W1.heap.size := by have := k1.size; simpa using this
  have kk := set2 w2 (w.heap.size + 1) 0 1 (.slice o1 (sn - 1) c1) (.slice o2 (hi - lo) c2)
  simp only [World.size_alloc] at a1
  have hz9 := HZ.out
  (try rw [hz9] at f2 kk ⊢)
  exact ⟨o1, c1, o2, c2, rfl, ((f1.below k2 (Nat.le_refl _)).keep1 kk (fun b off e => by have := (a1 b off e).1; intro e'; cases e'; omega)).mono (by simp; omega), (f2.keep1 kk (fun b off e => by have := (a2 b off e).1; intro e'; cases e'; omega)).mono (by omega), below_set2 _ _ _ _ (I1.below k2).bel (by omega) (Nat.le_refl _)⟩
set_option maxHeartbeats 4000000 in
set_option maxRecDepth 20000 in
theorem refAt_zero (so ao : Option Addr) (sn sc an ac : Nat) (sh at' : List Int) (w : World) (h : Rd w so sn sh) (hs : Sl so sn sc) (g : Rd w ao an at') (gs : Sl ao an ac) (j z : Nat) (hm : mayF (sh.drop 1) = 0) (hz : pr (sh.drop 1) = z) (hj4 : j ≤ 4096) (han : an ≤ 4096) (hb : (j + 1) * z ≤ an) (hz1 : z = 0) :
    Calls Try.prog 135 #[.agg #[.slice so sn sc, .slice ao an ac], .int .i64 (j : Nat)] w fun e w' => ∃ o1 c1 o2 c2, e = .returned (.agg #[.slice o1 (sn - 1) c1, .slice o2 z c2]) ∧ Ft 3 w' w.heap.size o1 (sn - 1) c1 (sh.drop 1) ∧ Ft 2 w' w.heap.size o2 z c2 ((at'.drop (j * z)).take z) ∧ Below w.heap.size w w' := by
  have hgle := gs.le
  have hgmx := gs.max
  have I0 := it_start w so sn sc ao an ac sh at' h g
  have cr := fun W (x : Rd W so sn sh) => refRest_any so ao sn sc an ac sh W x hs
  have cz := fun W o c (x : Rd W o (sn - 1) (sh.drop 1)) => refSize_any o (sn - 1) c (sh.drop 1) W x
  rw [hm, sizeF_ok hm, hz] at cz
  clear hm hz h
  subst hz1
  have HZ : Hid (0 - 0 = 0) := by show _ = _; omega
  simp only [Nat.mul_zero, Int.natCast_zero, List.drop_zero, List.take_zero] at cz ⊢
  cases ao with
  | none =>
    obtain ⟨rfl, rfl⟩ := gs.nil rfl
    clear g
    go_enter Try.func135, Try.ntmps135
    go_wp2_with (first
      | (go_at_call 154; refine (cr _ I0.s).mono ?_; rintro e W1 ⟨o1, c1, rfl, f1, k1⟩; have I1 := I0.below k1; have q0 := I1.c0; have q1 := I1.c1; have fn := Ft.nil 2 W1 W1.heap.size)
      | (go_at_call 53; refine (cz _ _ _ f1.rd).mono ?_; rintro e w' ⟨rfl, hw⟩; rw [hw]; clear hw w')
      | (at_builtin; refine wpList_joinT tyL rfl _ _ rfl W1.heap.size _ _ _ _ _ _ _ _ rfl rfl fn (Rd.empty _ _) ⟨fun _ => ⟨rfl, rfl⟩, by omega, by omega⟩ (by omega) (Nat.le_refl _) ?_; intro o2 c2 w2 f2 k2; rw [Nat.zero_add, List.nil_append] at f2; obtain ⟨p0, p1, z0, z1⟩ := box2 (I1.below k2).r))
    (try simp only [Exit.inBlock, Exit.then])
    refine bodyPost_ret (v := .agg #[.slice o1 (sn - 1) c1, .slice o2 0 c2]) (by simp [results, Try.results135]; go_simp) rfl ?_
    have sz := (Array.getElem?_eq_some_iff.1 I1.r).1
    have a1 := f1.at
    have a2 := f2.at
    have s0 : w.heap.size + 1 + 1 ≤ W1.heap.size := by have := k1.size; simpa using this
    have kk := set2 w2 (w.heap.size + 1) 0 1 (.slice o1 (sn - 1) c1) (.slice o2 0 c2)
    simp only [World.size_alloc] at a1
    have hz9 := HZ.out
    (try rw [hz9] at f2 kk ⊢)
    exact ⟨o1, c1, o2, c2, rfl, ((f1.below k2 (Nat.le_refl _)).keep1 kk (fun b off e => by have := (a1 b off e).1; intro e'; cases e'; omega)).mono (by simp; omega), (f2.keep1 kk (fun b off e => by have := (a2 b off e).1; intro e'; cases e'; omega)).mono (by omega), below_set2 _ _ _ _ (I1.below k2).bel (by omega) (Nat.le_refl _)⟩
  | some a =>
    have hac : ac = 0 ∨ 0 < ac := by omega
    rcases hac with rfl | hac
    · obtain rfl : an = 0 := by omega
      clear g
      go_enter Try.func135, Try.ntmps135
      go_wp2_with (first
        | (go_at_call 154; refine (cr _ I0.s).mono ?_; rintro e W1 ⟨o1, c1, rfl, f1, k1⟩; have I1 := I0.below k1; have q0 := I1.c0; have q1 := I1.c1; have fn := Ft.nil 2 W1 W1.heap.size)
        | (go_at_call 53; refine (cz _ _ _ f1.rd).mono ?_; rintro e w' ⟨rfl, hw⟩; rw [hw]; clear hw w')
        | (at_builtin; refine wpList_joinT tyL rfl _ _ rfl W1.heap.size _ _ _ _ _ _ _ _ rfl rfl fn (Rd.empty _ _) ⟨fun e => (by cases e), by omega, by omega⟩ (by omega) (Nat.le_refl _) ?_; intro o2 c2 w2 f2 k2; rw [Nat.zero_add, List.nil_append] at f2; obtain ⟨p0, p1, z0, z1⟩ := box2 (I1.below k2).r))
      (try simp only [Exit.inBlock, Exit.then])
      refine bodyPost_ret (v := .agg #[.slice o1 (sn - 1) c1, .slice o2 0 c2]) (by simp [results, Try.results135]; go_simp) rfl ?_
      have sz := (Array.getElem?_eq_some_iff.1 I1.r).1
      have a1 := f1.at
      have a2 := f2.at
      have s0 : w.heap.size + 1 + 1 ≤ W1.heap.size := by have := k1.size; simpa using this
      have kk := set2 w2 (w.heap.size + 1) 0 1 (.slice o1 (sn - 1) c1) (.slice o2 0 c2)
      simp only [World.size_alloc] at a1
      have hz9 := HZ.out
      (try rw [hz9] at f2 kk ⊢)
      exact ⟨o1, c1, o2, c2, rfl, ((f1.below k2 (Nat.le_refl _)).keep1 kk (fun b off e => by have := (a1 b off e).1; intro e'; cases e'; omega)).mono (by simp; omega), (f2.keep1 kk (fun b off e => by have := (a2 b off e).1; intro e'; cases e'; omega)).mono (by omega), below_set2 _ _ _ _ (I1.below k2).bel (by omega) (Nat.le_refl _)⟩
    · have hac1 : ¬ ac = 0 := by omega
      clear g
      go_enter Try.func135, Try.ntmps135
      go_wp2_with (first
        | (go_at_call 154; refine (cr _ I0.s).mono ?_; rintro e W1 ⟨o1, c1, rfl, f1, k1⟩; have I1 := I0.below k1; have q0 := I1.c0; have q1 := I1.c1; have fn := Ft.nil 2 W1 W1.heap.size)
        | (go_at_call 53; refine (cz _ _ _ f1.rd).mono ?_; rintro e w' ⟨rfl, hw⟩; rw [hw]; clear hw w')
        | (at_builtin; refine wpList_joinT tyL rfl _ _ rfl W1.heap.size _ _ _ _ _ _ _ _ rfl rfl fn (Rd.empty _ _) ⟨fun e => (by cases e), by omega, by omega⟩ (by omega) (Nat.le_refl _) ?_; intro o2 c2 w2 f2 k2; rw [Nat.zero_add, List.nil_append] at f2; obtain ⟨p0, p1, z0, z1⟩ := box2 (I1.below k2).r))
      (try simp only [Exit.inBlock, Exit.then])
      refine bodyPost_ret (v := .agg #[.slice o1 (sn - 1) c1, .slice o2 0 c2]) (by simp [results, Try.results135]; go_simp) rfl ?_
      have sz := (Array.getElem?_eq_some_iff.1 I1.r).1
      have a1 := f1.at
      have a2 := f2.at
      have s0 : w.heap.size + 1 + 1 ≤ W1.heap.size := by have := k1.size; simpa using this
      have kk := set2 w2 (w.heap.size + 1) 0 1 (.slice o1 (sn - 1) c1) (.slice o2 0 c2)
      simp only [World.size_alloc] at a1
      have hz9 := HZ.out
      (try rw [hz9] at f2 kk ⊢)
      exact ⟨o1, c1, o2, c2, rfl, ((f1.below k2 (Nat.le_refl _)).keep1 kk (fun b off e => by have := (a1 b off e).1; intro e'; cases e'; omega)).mono (by simp; omega), (f2.keep1 kk (fun b off e => by have := (a2 b off e).1; intro e'; cases e'; omega)).mono (by omega), below_set2 _ _ _ _ (I1.below k2).bel (by omega) (Nat.le_refl _)⟩

end Go.Proofs.Ytkplfnajhinkiaa
