
/- Contract of the document's own At: an item that there is. -/

import Derived.Test.YtmepcenbaohcoaaGreatR1

import Derived.Test.YtmepcenbaohcoaaGreatC13

namespace Go.Proofs.YtmepcenbaohcoaaGreat

open Go.RowKit

set_option linter.unusedVariables false

theorem refSame_any (so ao to bo : Option Addr) (sn sc an ac tn tc bn bc : Nat) (s a t b : List Int) (w : World) (hs : Rd w so sn s) (ha : Rd w ao an a) (ht : Rd w to tn t) (hb : Rd w bo bn b) :
    Calls Tryz.prog 36 #[.agg #[.slice so sn sc, .slice ao an ac], .agg #[.slice to tn tc, .slice bo bn bc]] w fun e w' => e = .returned (.bool (eqA s a t b)) ∧ Below w.heap.size w w' := by
  have tw := two_boxes w so ao to bo sn sc an ac tn tc bn bc
  have k1 := box_below w (.cells #[.slice so sn sc, .slice ao an ac] 30)
  have k2 := box_below (w.alloc (.cells #[.slice so sn sc, .slice ao an ac] 30)) (.cells #[.slice to tn tc, .slice bo bn bc] 30)
  have cc := refCompare_any so ao to bo sn sc an ac tn tc bn bc s a t b _ ((hs.below k1 (Nat.le_refl _)).below k2 (Nat.le_refl _)) ((ha.below k1 (Nat.le_refl _)).below k2 (Nat.le_refl _)) ((ht.below k1 (Nat.le_refl _)).below k2 (Nat.le_refl _)) ((hb.below k1 (Nat.le_refl _)).below k2 (Nat.le_refl _))
  have e0 := cmpA_zero s a t b
  rw [← eqA_iff] at e0
  have HE : Hid (eqA s a t b = (cmpA s a t b == 0)) := by
    show _ = _
    cases h : eqA s a t b
    · rw [h] at e0; simp at e0; simp [e0]
    · rw [h] at e0; simp at e0; simp [e0]
  clear e0 k1 k2 hs ha ht hb
  generalize cmpA s a t b = x at *
  go_enter Tryz.func36, Tryz.ntmps36
  go_wp2_with (go_at_call 54; refine cc.mono ?_; rintro e w1 ⟨rfl, h1⟩; have bel := btw tw.bel h1 tw.bel.size)
  go_ret
  exact ⟨ret_bool HE.out.symm, bel⟩

theorem refItems_any (so ao : Option Addr) (sn sc an ac : Nat) (sh at' : List Int) (w : World) (h : Rd w so sn sh) (g : Rd w ao an at') :
    Calls Tryz.prog 33 #[.agg #[.slice so sn sc, .slice ao an ac]] w fun e w' => e = .returned (.int .i64 (itm sh at')) ∧ Below w.heap.size w w' := by
  have hb := box_below w (.cells #[.slice so sn sc, .slice ao an ac] 30)
  have b0 := bx_first (sc := sc) (ac := ac) h g
  have HL : Hid (sh.length = sn) := h.len
  have hroom := h.room
  have hm := refMayA_any so ao sn sc an ac sh at' _ b0.s b0.a
  by_cases h0 : mayA sh at' = 0
  · rw [h0] at hm
    have HI : Hid (itm sh at' = tal sh) := by show _ = _; unfold itm; rw [if_pos h0]
    clear h0 h g
    by_cases hz : sn = 0
    · subst hz
      go_enter Tryz.func33, Tryz.ntmps33
      go_wp2_with (go_at_call 50; refine hm.mono ?_; rintro e w1 ⟨rfl, h1⟩; have b1 := b0.below h1; have X1 := b1.c0; have X2 := b1.c1; have bel := btw hb h1 hb.size)
      go_ret
      exact ⟨ret_int (by rw [HI.out]; unfold tal; rw [if_pos HL.out]), bel⟩
    · have h0' : ((sn : Int) == 0) = false := by simp; omega
      go_enter Tryz.func33, Tryz.ntmps33
      go_wp2_with (go_at_call 50; refine hm.mono ?_; rintro e w1 ⟨rfl, h1⟩; have b1 := b0.below h1; have X1 := b1.c0; have X2 := b1.c1; have bel := btw hb h1 hb.size; obtain ⟨p, off, rfl, hp, hc⟩ := b1.s.cells (by omega); have c1 := hc 0 (by omega); rw [Nat.add_zero] at c1; clear hc)
      go_ret
      exact ⟨ret_int (by rw [HI.out]; unfold tal; rw [if_neg (by rw [HL.out]; exact hz)]), bel⟩
  · have h0' : (mayA sh at' != 0) = true := by simpa using h0
    have HI : Hid (itm sh at' = 0) := by show _ = _; unfold itm; rw [if_neg h0]
    clear h0
    go_enter Tryz.func33, Tryz.ntmps33
    go_wp2_with (go_at_call 50; refine hm.mono ?_; rintro e w1 ⟨rfl, h1⟩; have bel := btw hb h1 hb.size)
    go_ret
    exact ⟨ret_int HI.out.symm, bel⟩

set_option maxHeartbeats 1000000 in
theorem refRest_any (so ao : Option Addr) (sn sc an ac : Nat) (sh : List Int) (w : World) (h : Rd w so sn sh) (hs : Sl so sn sc) :
    Calls Tryz.prog 52 #[.agg #[.slice so sn sc, .slice ao an ac]] w fun e w' => ∃ o c, e = .returned (.slice o (sn - 1) c) ∧ Ft 3 w' w.heap.size o (sn - 1) c (sh.drop 1) ∧ Below w.heap.size w w' := by
  have hb := box_below w (.cells #[.slice so sn sc, .slice ao an ac] 30)
  have h' := h.below hb (Nat.le_refl _)
  have hle := hs.le
  have hmx := hs.max
  have hroom := h.room
  have fn := Ft.nil 3 (w.alloc (.cells #[.slice so sn sc, .slice ao an ac] 30)) (w.heap.size + 1)
  by_cases h0 : sn = 0
  · subst h0
    have hz : sh = [] := List.eq_nil_of_length_eq_zero h.len
    subst hz
    go_enter Tryz.func52, Tryz.ntmps52
    go_wp2
    go_ret
    exact ⟨none, 0, rfl, Ft.nil _ _ _, hb⟩
  · have h0' : ((sn : Int) == 0) = false := by simp; omega
    obtain ⟨p, off, rfl, hp, hc⟩ := h'.cells (by omega)
    clear hc h
    by_cases hc1 : sc = 1
    · obtain rfl : sn = 1 := by omega
      subst hc1
      have hd : Rd (w.alloc (.cells #[.slice (some ⟨p, off, none⟩) 1 1, .slice ao an ac] 30)) (some ⟨p, off, none⟩) 0 (sh.drop 1) := h'.dropAll 1 (by omega)
      go_enter Tryz.func52, Tryz.ntmps52
      go_wp2_with (at_builtin; refine wpList_joinT tyI rfl _ _ rfl (w.heap.size + 1) _ _ _ _ _ _ _ _ rfl rfl fn hd ⟨fun e => (by cases e), by omega, by omega⟩ (by omega) (by simp) ?_; intro bo bc w2 hf hb2; rw [Nat.zero_add, List.nil_append] at hf)
      go_ret
      exact ⟨bo, bc, rfl, hf.mono (by omega), hb.trans (hb2.mono (by omega))⟩
    · have hd : Rd (w.alloc (.cells #[.slice (some ⟨p, off, none⟩) sn sc, .slice ao an ac] 30)) (some ⟨p, off + 1, none⟩) (sn - 1) (sh.drop 1) := h'.dropAt 1 (by omega)
      go_enter Tryz.func52, Tryz.ntmps52
      go_wp2_with (at_builtin; refine wpList_joinT tyI rfl _ _ rfl (w.heap.size + 1) _ _ _ _ _ _ _ _ rfl rfl fn hd ⟨fun e => (by cases e), by omega, by omega⟩ (by omega) (by simp) ?_; intro bo bc w2 hf hb2; rw [Nat.zero_add, List.nil_append] at hf)
      go_ret
      exact ⟨bo, bc, rfl, hf.mono (by omega), hb.trans (hb2.mono (by omega))⟩
end Go.Proofs.YtmepcenbaohcoaaGreat

namespace Go.Proofs.YtmepcenbaohcoaaGreat

open Go.RowKit

set_option linter.unusedVariables false

set_option maxHeartbeats 4000000 in
set_option maxRecDepth 20000 in
theorem refAt_some (so ao : Option Addr) (sn sc an ac : Nat) (sh at' : List Int) (w : World) (h : Rd w so sn sh) (hs : Sl so sn sc) (g : Rd w ao an at') (gs : Sl ao an ac) (j z : Nat) (hm : mayF (sh.drop 1) = 0) (hz : pr (sh.drop 1) = z) (hj4 : j ≤ 4096) (han : an ≤ 4096) (hb : (j + 1) * z ≤ an) (hz1 : 0 < z) :
    Calls Tryz.prog 51 #[.agg #[.slice so sn sc, .slice ao an ac], .int .i64 (j : Nat)] w fun e w' => ∃ o1 c1 o2 c2, e = .returned (.agg #[.slice o1 (sn - 1) c1, .slice o2 z c2]) ∧ Ft 3 w' w.heap.size o1 (sn - 1) c1 (sh.drop 1) ∧ Ft 2 w' w.heap.size o2 z c2 ((at'.drop (j * z)).take z) ∧ Below w.heap.size w w' := by
  have hgle := gs.le
  have hgmx := gs.max
  have I0 := it_start w so sn sc ao an ac sh at' h g
  have cr := fun W (x : Rd W so sn sh) => refRest_any so ao sn sc an ac sh W x hs
  have cz := fun W o c (x : Rd W o (sn - 1) (sh.drop 1)) => refSize_any o (sn - 1) c (sh.drop 1) W x
  rw [hm, sizeF_ok hm, hz] at cz
  clear hm hz h
  obtain ⟨lo, hlo⟩ : ∃ lo : Nat, j * z = lo := ⟨_, rfl⟩
  obtain ⟨hi, hhi⟩ : ∃ hi : Nat, lo + z = hi := ⟨_, rfl⟩
  have m1 : ((j : Int) * (z : Int)) = (lo : Int) := by rw [← hlo]; simp
  have m2 : ((lo : Int) + (z : Int)) = (hi : Int) := by rw [← hhi]; simp
  rw [Nat.add_mul, Nat.one_mul, hlo, hhi] at hb
  rw [hlo]
  have HH : Hid (lo + z = hi) := hhi
  have HZ : Hid (hi - lo = z) := by show _ = _; omega
  have b1 : (lo : Int) ≤ (hi : Int) := by omega
  have b2 : (hi : Int) ≤ (ac : Int) := by omega
  have b4 : lo < ac := by omega
  have b5 : ¬ ac = lo := by omega
  have b6 : (hi : Int) ≤ 4096 := by omega
  have b7 : (z : Int) ≤ 4096 := by omega
  obtain ⟨b, off, rfl, _, _⟩ := g.cells (by omega)
  clear hlo hhi g
  go_enter Tryz.func51, Tryz.ntmps51
  go_wp2_with (first
    | (go_at_call 52; refine (cr _ I0.s).mono ?_; rintro e W1 ⟨o1, c1, rfl, f1, k1⟩; have I1 := I0.below k1; have q0 := I1.c0; have q1 := I1.c1; have fn := Ft.nil 2 W1 W1.heap.size)
    | (go_at_call 76; refine (cz _ _ _ f1.rd).mono ?_; rintro e w' ⟨rfl, hw⟩; rw [hw]; clear hw w')
    | (at_builtin; refine wpList_joinT tyL rfl _ _ rfl W1.heap.size _ _ _ _ _ _ _ _ rfl rfl fn (I1.a.part HH.out hb) ⟨fun e => (by cases e), by omega, by omega⟩ (by omega) (Nat.le_refl _) ?_; intro o2 c2 w2 f2 k2; rw [Nat.zero_add, List.nil_append] at f2; obtain ⟨p0, p1, z0, z1⟩ := box2 (I1.below k2).r))
  (try simp only [Exit.inBlock, Exit.then])
  refine bodyPost_ret (v := .agg #[.slice o1 (sn - 1) c1, .slice o2 (hi - lo) c2]) (by simp [results, Tryz.results51]; go_simp) rfl ?_
  have sz := (Array.getElem?_eq_some_iff.1 I1.r).1
  have a1 := f1.at
  have a2 := f2.at
  have s0 : w.heap.size + 1 + 1 ≤ W1.heap.size := by have := k1.size; simpa using this
  have kk := set2 w2 (w.heap.size + 1) 0 1 (.slice o1 (sn - 1) c1) (.slice o2 (hi - lo) c2)
  simp only [World.size_alloc] at a1
  have hz9 := HZ.out
  (try rw [hz9] at f2 kk ⊢)
  exact ⟨o1, c1, o2, c2, rfl, ((f1.below k2 (Nat.le_refl _)).keep1 kk (fun b off e => by have := (a1 b off e).1; intro e'; cases e'; omega)).mono (by simp; omega), (f2.keep1 kk (fun b off e => by have := (a2 b off e).1; intro e'; cases e'; omega)).mono (by omega), below_set2 _ _ _ _ (I1.below k2).bel (by omega) (Nat.le_refl _)⟩
set_option maxHeartbeats 4000000 in
set_option maxRecDepth 20000 in
theorem refAt_zero (so ao : Option Addr) (sn sc an ac : Nat) (sh at' : List Int) (w : World) (h : Rd w so sn sh) (hs : Sl so sn sc) (g : Rd w ao an at') (gs : Sl ao an ac) (j z : Nat) (hm : mayF (sh.drop 1) = 0) (hz : pr (sh.drop 1) = z) (hj4 : j ≤ 4096) (han : an ≤ 4096) (hb : (j + 1) * z ≤ an) (hz1 : z = 0) :
    Calls Tryz.prog 51 #[.agg #[.slice so sn sc, .slice ao an ac], .int .i64 (j : Nat)] w fun e w' => ∃ o1 c1 o2 c2, e = .returned (.agg #[.slice o1 (sn - 1) c1, .slice o2 z c2]) ∧ Ft 3 w' w.heap.size o1 (sn - 1) c1 (sh.drop 1) ∧ Ft 2 w' w.heap.size o2 z c2 ((at'.drop (j * z)).take z) ∧ Below w.heap.size w w' := by
  have hgle := gs.le
  have hgmx := gs.max
  have I0 := it_start w so sn sc ao an ac sh at' h g
  have cr := fun W (x : Rd W so sn sh) => refRest_any so ao sn sc an ac sh W x hs
  have cz := fun W o c (x : Rd W o (sn - 1) (sh.drop 1)) => refSize_any o (sn - 1) c (sh.drop 1) W x
  rw [hm, sizeF_ok hm, hz] at cz
  clear hm hz h
  subst hz1
  have HZ : Hid (0 - 0 = 0) := by show _ = _; omega
  simp only [Nat.mul_zero, Int.natCast_zero, List.drop_zero, List.take_zero] at cz ⊢
  cases ao with
  | none =>
    obtain ⟨rfl, rfl⟩ := gs.nil rfl
    clear g
    go_enter Tryz.func51, Tryz.ntmps51
    go_wp2_with (first
      | (go_at_call 52; refine (cr _ I0.s).mono ?_; rintro e W1 ⟨o1, c1, rfl, f1, k1⟩; have I1 := I0.below k1; have q0 := I1.c0; have q1 := I1.c1; have fn := Ft.nil 2 W1 W1.heap.size)
      | (go_at_call 76; refine (cz _ _ _ f1.rd).mono ?_; rintro e w' ⟨rfl, hw⟩; rw [hw]; clear hw w')
      | (at_builtin; refine wpList_joinT tyL rfl _ _ rfl W1.heap.size _ _ _ _ _ _ _ _ rfl rfl fn (Rd.empty _ _) ⟨fun _ => ⟨rfl, rfl⟩, by omega, by omega⟩ (by omega) (Nat.le_refl _) ?_; intro o2 c2 w2 f2 k2; rw [Nat.zero_add, List.nil_append] at f2; obtain ⟨p0, p1, z0, z1⟩ := box2 (I1.below k2).r))
    (try simp only [Exit.inBlock, Exit.then])
    refine bodyPost_ret (v := .agg #[.slice o1 (sn - 1) c1, .slice o2 0 c2]) (by simp [results, Tryz.results51]; go_simp) rfl ?_
    have sz := (Array.getElem?_eq_some_iff.1 I1.r).1
    have a1 := f1.at
    have a2 := f2.at
    have s0 : w.heap.size + 1 + 1 ≤ W1.heap.size := by have := k1.size; simpa using this
    have kk := set2 w2 (w.heap.size + 1) 0 1 (.slice o1 (sn - 1) c1) (.slice o2 0 c2)
    simp only [World.size_alloc] at a1
    have hz9 := HZ.out
    (try rw [hz9] at f2 kk ⊢)
    exact ⟨o1, c1, o2, c2, rfl, ((f1.below k2 (Nat.le_refl _)).keep1 kk (fun b off e => by have := (a1 b off e).1; intro e'; cases e'; omega)).mono (by simp; omega), (f2.keep1 kk (fun b off e => by have := (a2 b off e).1; intro e'; cases e'; omega)).mono (by omega), below_set2 _ _ _ _ (I1.below k2).bel (by omega) (Nat.le_refl _)⟩
  | some a =>
    have hac : ac = 0 ∨ 0 < ac := by omega
    rcases hac with rfl | hac
    · obtain rfl : an = 0 := by omega
      clear g
      go_enter Tryz.func51, Tryz.ntmps51
      go_wp2_with (first
        | (go_at_call 52; refine (cr _ I0.s).mono ?_; rintro e W1 ⟨o1, c1, rfl, f1, k1⟩; have I1 := I0.below k1; have q0 := I1.c0; have q1 := I1.c1; have fn := Ft.nil 2 W1 W1.heap.size)
        | (go_at_call 76; refine (cz _ _ _ f1.rd).mono ?_; rintro e w' ⟨rfl, hw⟩; rw [hw]; clear hw w')
        | (at_builtin; refine wpList_joinT tyL rfl _ _ rfl W1.heap.size _ _ _ _ _ _ _ _ rfl rfl fn (Rd.empty _ _) ⟨fun e => (by cases e), by omega, by omega⟩ (by omega) (Nat.le_refl _) ?_; intro o2 c2 w2 f2 k2; rw [Nat.zero_add, List.nil_append] at f2; obtain ⟨p0, p1, z0, z1⟩ := box2 (I1.below k2).r))
      (try simp only [Exit.inBlock, Exit.then])
      refine bodyPost_ret (v := .agg #[.slice o1 (sn - 1) c1, .slice o2 0 c2]) (by simp [results, Tryz.results51]; go_simp) rfl ?_
      have sz := (Array.getElem?_eq_some_iff.1 I1.r).1
      have a1 := f1.at
      have a2 := f2.at
      have s0 : w.heap.size + 1 + 1 ≤ W1.heap.size := by have := k1.size; simpa using this
      have kk := set2 w2 (w.heap.size + 1) 0 1 (.slice o1 (sn - 1) c1) (.slice o2 0 c2)
      simp only [World.size_alloc] at a1
      have hz9 := HZ.out
      (try rw [hz9] at f2 kk ⊢)
      exact ⟨o1, c1, o2, c2, rfl, ((f1.below k2 (Nat.le_refl _)).keep1 kk (fun b off e => by have := (a1 b off e).1; intro e'; cases e'; omega)).mono (by simp; omega), (f2.keep1 kk (fun b off e => by have := (a2 b off e).1; intro e'; cases e'; omega)).mono (by omega), below_set2 _ _ _ _ (I1.below k2).bel (by omega) (Nat.le_refl _)⟩
    · have hac1 : ¬ ac = 0 := by omega
      clear g
      go_enter Tryz.func51, Tryz.ntmps51
      go_wp2_with (first
        | (go_at_call 52; refine (cr _ I0.s).mono ?_; rintro e W1 ⟨o1, c1, rfl, f1, k1⟩; have I1 := I0.below k1; have q0 := I1.c0; have q1 := I1.c1; have fn := Ft.nil 2 W1 W1.heap.size)
        | (go_at_call 76; refine (cz _ _ _ f1.rd).mono ?_; rintro e w' ⟨rfl, hw⟩; rw [hw]; clear hw w')
        | (at_builtin; refine wpList_joinT tyL rfl _ _ rfl W1.heap.size _ _ _ _ _ _ _ _ rfl rfl fn (Rd.empty _ _) ⟨fun e => (by cases e), by omega, by omega⟩ (by omega) (Nat.le_refl _) ?_; intro o2 c2 w2 f2 k2; rw [Nat.zero_add, List.nil_append] at f2; obtain ⟨p0, p1, z0, z1⟩ := box2 (I1.below k2).r))
      (try simp only [Exit.inBlock, Exit.then])
      refine bodyPost_ret (v := .agg #[.slice o1 (sn - 1) c1, .slice o2 0 c2]) (by simp [results, Tryz.results51]; go_simp) rfl ?_
      have sz := (Array.getElem?_eq_some_iff.1 I1.r).1
      have a1 := f1.at
      have a2 := f2.at
      have s0 : w.heap.size + 1 + 1 ≤ W1.heap.size := by have := k1.size; simpa using this
      have kk := set2 w2 (w.heap.size + 1) 0 1 (.slice o1 (sn - 1) c1) (.slice o2 0 c2)
      simp only [World.size_alloc] at a1
      have hz9 := HZ.out
      (try rw [hz9] at f2 kk ⊢)
      exact ⟨o1, c1, o2, c2, rfl, ((f1.below k2 (Nat.le_refl _)).keep1 kk (fun b off e => by have := (a1 b off e).1; intro e'; cases e'; omega)).mono (by simp; omega), (f2.keep1 kk (fun b off e => by have := (a2 b off e).1; intro e'; cases e'; omega)).mono (by omega), below_set2 _ _ _ _ (I1.below k2).bel (by omega) (Nat.le_refl _)⟩

end Go.Proofs.YtmepcenbaohcoaaGreat
