
/- Contract: an item, of any array, at any index. -/

import Derived.Test.YtmepcenbaohcoaaGreatA7

import Derived.Test.YtmepcenbaohcoaaGreatRefs

namespace Go.Proofs.YtmepcenbaohcoaaGreat

open Go.RowKit

set_option linter.unusedVariables false

set_option maxHeartbeats 4000000 in
set_option maxRecDepth 20000 in
theorem item_none (so ao : Option Addr) (sn sc an ac : Nat) (sh at' : List Int) (i : Int) (w : World) (h : Rd w so sn sh) (hs : Sl so sn sc) (g : Rd w ao an at') (gs : Sl ao an ac) (h0 : mayA sh at' = 0) (N j z : Nat) (hN : tal sh = N) (hN4 : N ≤ 4096) (han : an ≤ 4096) (hj : j < N) (hi0 : i = j ∨ (i + N = j ∧ i < 0)) (hz : (an : Int) / (N : Int) = z) (hb : (j + 1) * z ≤ an) (hz1 : z = 0) (hao : ao = none) :
    Calls Tryz.prog 57 #[.agg #[.slice so sn sc, .slice ao an ac], .int .i64 i] w fun e w' => ∃ o1 n1 c1 o2 c2, e = .returned (.tuple #[.agg #[.slice o1 n1 c1, .slice o2 z c2], .int .i64 0]) ∧ Ft 3 w' w.heap.size o1 n1 c1 (sh.drop 1) ∧ Ft 2 w' w.heap.size o2 z c2 ((at'.drop (j * z)).take z) ∧ apart o1 o2 ∧ Below w.heap.size w w' := by
  have hsl := fun h0 => h.lt h0
  have hal := fun h0 => g.lt h0
  have I0 := it_start w so sn sc ao an ac sh at' h g
  have hm := mayA_any so ao sn sc an ac sh at' _ I0.s I0.a
  have ht := fun W (x : Rd W so sn sh) => tally_any so ao sn sc an ac sh W x
  rw [h0] at hm
  rw [hN] at ht
  clear h0 hN
  have hN0 : ((N : Int) == 0) = false := by simp; omega
  have hgle := gs.le
  have hgmx := gs.max
  subst hz1 hao
  obtain ⟨rfl, rfl⟩ := gs.nil rfl
  have w2 : IntKind.i64.wrap ((j : Int) + 1) = (j : Int) + 1 := wrapIn _ (by omega)
  have w0 : IntKind.i64.wrap 0 = 0 := wrapIn _ (by omega)
  simp only [Nat.mul_zero, Int.natCast_zero, List.drop_zero, List.take_zero] at hz ⊢
  have hw : (i = (j : Int)) ∨ (-(N : Int) ≤ i ∧ i < (N : Int) ∧ i < 0 ∧ i + (N : Int) = (j : Int)) := by omega
  have hj1 : (j : Int) < N := by omega
  have hj2 : -(N : Int) ≤ j := by omega
  clear hi0
  rcases hw with rfl | ⟨d1, d2, d3, d4⟩
  all_goals
    go_enter Tryz.func57, Tryz.ntmps57
    go_wp2_with (first
      | (go_at_call 20; refine hm.mono ?_; rintro e W1 ⟨rfl, h1⟩; have I1 := I0.below h1; obtain ⟨p0, p1, _, _, _, _⟩ := I1)
      | (go_at_call 79; refine (ht _ (I0.below h1).s).mono ?_; rintro e W2 ⟨rfl, h2⟩; have I2 := ((I0.below h1).below h2).u; obtain ⟨q0, q1, _, _, _, _⟩ := I2))
    have I2 := ((I0.below h1).below h2).u
    have hsz : w.heap.size + 1 < W2.heap.size := (Array.getElem?_eq_some_iff.1 ((I0.below h1).below h2).r).1
    go_region_held3 (fun W => W.cell? ⟨w.heap.size, 0, none⟩ = some (.slice so sn sc) ∧ W.cell? ⟨w.heap.size, 1, none⟩ = some (.slice none 0 0) ∧ Iu w W so sn sc none 0 0 sh at') (first | exact Iu.all (by assumption) | exact Iu.all (Iu.drew (by assumption)) | exact Iu.all (Iu.set (by assumption) hsl hal _ _))
      (first
        | (go_at_call 81; refine (itemShape_any so _ sn sc 0 0 sh _ (‹_ ∧ _ ∧ Iu w _ so sn sc _ 0 0 sh at'›).2.2.s hs).mono ?_; rintro e w3 ⟨o3, c3, rfl, r3, s3, h3⟩; have I3 := (‹_ ∧ _ ∧ Iu w _ so sn sc _ 0 0 sh at'›).2.2.below h3)
        | (go_at_call 80; refine (clone_any _ _ _ _ _ r3 s3).mono ?_; rintro e w4 ⟨o4, c4, rfl, f4, h4⟩; have I4 := I3.below h4)
        | (go_at_call 82; refine (clone8_any _ _ _ _ _ (Rd.empty _ _) ⟨fun _ => ⟨rfl, rfl⟩, by omega, by omega⟩).mono ?_; rintro e w5 ⟨o5, c5, rfl, f5, h5⟩; have I5 := I4.below h5; obtain ⟨x5, y5, hr5⟩ := I5.r; obtain ⟨k0, k1, z0, z1⟩ := box2 hr5))
    go_wp2
    (try simp only [Exit.inBlock, Exit.then])
    refine bodyPost_ret (v := .tuple #[.agg #[.slice o4 (sn - 1) c4, .slice o5 0 c5], .int .i64 0]) (by rw [results_cell_tmp rfl]; go_simp) rfl ?_
    exact item_end hsz h3 f4 h4 f5 h5 I5.bel

set_option maxHeartbeats 4000000 in
set_option maxRecDepth 20000 in
theorem item_zero (so ao : Option Addr) (sn sc an ac : Nat) (sh at' : List Int) (i : Int) (w : World) (h : Rd w so sn sh) (hs : Sl so sn sc) (g : Rd w ao an at') (gs : Sl ao an ac) (h0 : mayA sh at' = 0) (N j z : Nat) (hN : tal sh = N) (hN4 : N ≤ 4096) (han : an ≤ 4096) (hj : j < N) (hi0 : i = j ∨ (i + N = j ∧ i < 0)) (hz : (an : Int) / (N : Int) = z) (hb : (j + 1) * z ≤ an) (hz1 : z = 0) (a : Addr) (hao : ao = some a) :
    Calls Tryz.prog 57 #[.agg #[.slice so sn sc, .slice ao an ac], .int .i64 i] w fun e w' => ∃ o1 n1 c1 o2 c2, e = .returned (.tuple #[.agg #[.slice o1 n1 c1, .slice o2 z c2], .int .i64 0]) ∧ Ft 3 w' w.heap.size o1 n1 c1 (sh.drop 1) ∧ Ft 2 w' w.heap.size o2 z c2 ((at'.drop (j * z)).take z) ∧ apart o1 o2 ∧ Below w.heap.size w w' := by
  have hsl := fun h0 => h.lt h0
  have hal := fun h0 => g.lt h0
  have I0 := it_start w so sn sc ao an ac sh at' h g
  have hm := mayA_any so ao sn sc an ac sh at' _ I0.s I0.a
  have ht := fun W (x : Rd W so sn sh) => tally_any so ao sn sc an ac sh W x
  rw [h0] at hm
  rw [hN] at ht
  clear h0 hN
  have hN0 : ((N : Int) == 0) = false := by simp; omega
  have hgle := gs.le
  have hgmx := gs.max
  subst hz1 hao
  have w2 : IntKind.i64.wrap ((j : Int) + 1) = (j : Int) + 1 := wrapIn _ (by omega)
  have w0 : IntKind.i64.wrap 0 = 0 := wrapIn _ (by omega)
  simp only [Nat.mul_zero, Int.natCast_zero, List.drop_zero, List.take_zero] at hz ⊢
  have hw : (i = (j : Int)) ∨ (-(N : Int) ≤ i ∧ i < (N : Int) ∧ i < 0 ∧ i + (N : Int) = (j : Int)) := by omega
  have hj1 : (j : Int) < N := by omega
  have hj2 : -(N : Int) ≤ j := by omega
  clear hi0
  have hac : ac = 0 ∨ 0 < ac := by omega
  rcases hac with rfl | hac
  · obtain rfl : an = 0 := by omega
    rcases hw with rfl | ⟨d1, d2, d3, d4⟩
    all_goals
      go_enter Tryz.func57, Tryz.ntmps57
      go_wp2_with (first
        | (go_at_call 20; refine hm.mono ?_; rintro e W1 ⟨rfl, h1⟩; have I1 := I0.below h1; obtain ⟨p0, p1, _, _, _, _⟩ := I1)
        | (go_at_call 79; refine (ht _ (I0.below h1).s).mono ?_; rintro e W2 ⟨rfl, h2⟩; have I2 := ((I0.below h1).below h2).u; obtain ⟨q0, q1, _, _, _, _⟩ := I2))
      have I2 := ((I0.below h1).below h2).u
      have hsz : w.heap.size + 1 < W2.heap.size := (Array.getElem?_eq_some_iff.1 ((I0.below h1).below h2).r).1
      go_region_held3 (fun W => W.cell? ⟨w.heap.size, 0, none⟩ = some (.slice so sn sc) ∧ W.cell? ⟨w.heap.size, 1, none⟩ = some (.slice (some a) 0 0) ∧ Iu w W so sn sc (some a) 0 0 sh at') (first | exact Iu.all (by assumption) | exact Iu.all (Iu.drew (by assumption)) | exact Iu.all (Iu.set (by assumption) hsl hal _ _))
        (first
          | (go_at_call 81; refine (itemShape_any so _ sn sc 0 0 sh _ (‹_ ∧ _ ∧ Iu w _ so sn sc _ 0 0 sh at'›).2.2.s hs).mono ?_; rintro e w3 ⟨o3, c3, rfl, r3, s3, h3⟩; have I3 := (‹_ ∧ _ ∧ Iu w _ so sn sc _ 0 0 sh at'›).2.2.below h3)
          | (go_at_call 80; refine (clone_any _ _ _ _ _ r3 s3).mono ?_; rintro e w4 ⟨o4, c4, rfl, f4, h4⟩; have I4 := I3.below h4)
          | (go_at_call 82; refine (clone8_any _ _ _ _ _ (Rd.empty _ _) ⟨fun e => (by cases e), by omega, by omega⟩).mono ?_; rintro e w5 ⟨o5, c5, rfl, f5, h5⟩; have I5 := I4.below h5; obtain ⟨x5, y5, hr5⟩ := I5.r; obtain ⟨k0, k1, z0, z1⟩ := box2 hr5))
      go_wp2
      (try simp only [Exit.inBlock, Exit.then])
      refine bodyPost_ret (v := .tuple #[.agg #[.slice o4 (sn - 1) c4, .slice o5 0 c5], .int .i64 0]) (by rw [results_cell_tmp rfl]; go_simp) rfl ?_
      exact item_end hsz h3 f4 h4 f5 h5 I5.bel
  · have hac1 : ¬ ac = 0 := by omega
    have hac2 : (0 : Int) ≤ (ac : Int) := by omega
    rcases hw with rfl | ⟨d1, d2, d3, d4⟩
    all_goals
      go_enter Tryz.func57, Tryz.ntmps57
      go_wp2_with (first
        | (go_at_call 20; refine hm.mono ?_; rintro e W1 ⟨rfl, h1⟩; have I1 := I0.below h1; obtain ⟨p0, p1, _, _, _, _⟩ := I1)
        | (go_at_call 79; refine (ht _ (I0.below h1).s).mono ?_; rintro e W2 ⟨rfl, h2⟩; have I2 := ((I0.below h1).below h2).u; obtain ⟨q0, q1, _, _, _, _⟩ := I2))
      have I2 := ((I0.below h1).below h2).u
      have hsz : w.heap.size + 1 < W2.heap.size := (Array.getElem?_eq_some_iff.1 ((I0.below h1).below h2).r).1
      go_region_held3 (fun W => W.cell? ⟨w.heap.size, 0, none⟩ = some (.slice so sn sc) ∧ W.cell? ⟨w.heap.size, 1, none⟩ = some (.slice (some a) an ac) ∧ Iu w W so sn sc (some a) an ac sh at') (first | exact Iu.all (by assumption) | exact Iu.all (Iu.drew (by assumption)) | exact Iu.all (Iu.set (by assumption) hsl hal _ _))
        (first
          | (go_at_call 81; refine (itemShape_any so _ sn sc an ac sh _ (‹_ ∧ _ ∧ Iu w _ so sn sc _ an ac sh at'›).2.2.s hs).mono ?_; rintro e w3 ⟨o3, c3, rfl, r3, s3, h3⟩; have I3 := (‹_ ∧ _ ∧ Iu w _ so sn sc _ an ac sh at'›).2.2.below h3)
          | (go_at_call 80; refine (clone_any _ _ _ _ _ r3 s3).mono ?_; rintro e w4 ⟨o4, c4, rfl, f4, h4⟩; have I4 := I3.below h4)
          | (go_at_call 82; refine (clone8_any _ _ _ _ _ (Rd.empty _ _) ⟨fun e => (by cases e), by omega, by omega⟩).mono ?_; rintro e w5 ⟨o5, c5, rfl, f5, h5⟩; have I5 := I4.below h5; obtain ⟨x5, y5, hr5⟩ := I5.r; obtain ⟨k0, k1, z0, z1⟩ := box2 hr5))
      go_wp2
      (try simp only [Exit.inBlock, Exit.then])
      refine bodyPost_ret (v := .tuple #[.agg #[.slice o4 (sn - 1) c4, .slice o5 0 c5], .int .i64 0]) (by rw [results_cell_tmp rfl]; go_simp) rfl ?_
      exact item_end hsz h3 f4 h4 f5 h5 I5.bel
end Go.Proofs.YtmepcenbaohcoaaGreat

namespace Go.Proofs.YtmepcenbaohcoaaGreat

open Go.RowKit

set_option linter.unusedVariables false

/-- The answers of Item: the error, the item's shape, its atoms. -/
def itmE (sh at' : List Int) (i : Int) : Int := if mayA sh at' ≠ 0 then 1 else if i < -tal sh ∨ tal sh ≤ i then 13 else 0
def itmJ (sh : List Int) (i : Int) : Nat := (if i < 0 then i + tal sh else i).toNat
def itmZ (sh at' : List Int) : Nat := at'.length / (tal sh).toNat
def itmS (sh at' : List Int) (i : Int) : List Int := if itmE sh at' i = 0 then sh.drop 1 else []
def itmA (sh at' : List Int) (i : Int) : List Int := if itmE sh at' i = 0 then (at'.drop (itmJ sh i * itmZ sh at')).take (itmZ sh at') else []

theorem tal_bd {sh : List Int} (h : mayF sh = 0) : 0 ≤ tal sh ∧ tal sh ≤ 4096 := by
  unfold tal
  by_cases c : sh.length = 0
  · rw [if_pos c]; omega
  · rw [if_neg c]; exact nth_small h (by omega)
theorem at_len {sh at' : List Int} (h : mayA sh at' = 0) : at'.length ≤ 4096 := by
  obtain ⟨h1, h2⟩ := mayA_zero h
  have := pr_small h1 sh.length (Nat.le_refl _)
  rw [List.take_length] at this
  omega
theorem itmE_may {sh at' : List Int} {i : Int} (h : mayA sh at' ≠ 0) : itmE sh at' i = 1 := if_pos h
theorem itmE_out {sh at' : List Int} {i : Int} (h : mayA sh at' = 0) (k : i < -tal sh ∨ tal sh ≤ i) : itmE sh at' i = 13 := by unfold itmE; rw [if_neg (by omega), if_pos k]
theorem itmE_in {sh at' : List Int} {i : Int} (h : mayA sh at' = 0) (k : ¬ (i < -tal sh ∨ tal sh ≤ i)) : itmE sh at' i = 0 := by unfold itmE; rw [if_neg (by omega), if_neg k]
theorem itm_no {sh at' : List Int} {i : Int} (h : itmE sh at' i ≠ 0) : itmS sh at' i = [] ∧ itmA sh at' i = [] := ⟨if_neg h, if_neg h⟩
theorem itm_yes {sh at' : List Int} {i : Int} (h : itmE sh at' i = 0) : itmS sh at' i = sh.drop 1 ∧ itmA sh at' i = (at'.drop (itmJ sh i * itmZ sh at')).take (itmZ sh at') := ⟨if_pos h, if_pos h⟩

theorem apart_nil (o : Option Addr) : apart none o := fun a b h => by cases h

theorem item_any (so ao : Option Addr) (sn sc an ac : Nat) (sh at' : List Int) (i : Int) (w : World) (h : Rd w so sn sh) (hs : Sl so sn sc) (g : Rd w ao an at') (gs : Sl ao an ac) :
    Calls Tryz.prog 57 #[.agg #[.slice so sn sc, .slice ao an ac], .int .i64 i] w fun e w' => ∃ o1 n1 c1 o2 n2 c2, e = .returned (.tuple #[.agg #[.slice o1 n1 c1, .slice o2 n2 c2], .int .i64 (itmE sh at' i)]) ∧ Ft 3 w' w.heap.size o1 n1 c1 (itmS sh at' i) ∧ Ft 2 w' w.heap.size o2 n2 c2 (itmA sh at' i) ∧ apart o1 o2 ∧ Below w.heap.size w w' := by
  by_cases h0 : mayA sh at' = 0
  · obtain ⟨m1, m2⟩ := mayA_zero h0
    have tb := tal_bd m1
    obtain ⟨N, hN⟩ : ∃ N : Nat, tal sh = N := ⟨(tal sh).toNat, by omega⟩
    by_cases hi : i < -tal sh ∨ tal sh ≤ i
    · have e0 := itmE_out h0 hi
      obtain ⟨e1, e2⟩ := itm_no (sh := sh) (at' := at') (i := i) (by rw [e0]; omega)
      rw [e0, e1, e2]
      exact (item_out so ao sn sc an ac sh at' i w h g h0 N hN (by omega) (by omega)).mono fun e w' ⟨x1, x2⟩ => ⟨none, 0, 0, none, 0, 0, x1, Ft.nil _ _ _, Ft.nil _ _ _, apart_nil _, x2⟩
    · have e0 := itmE_in h0 hi
      obtain ⟨e1, e2⟩ := itm_yes e0
      have hl := at_len h0
      rw [e0, e1, e2]
      have gl := g.len
      obtain ⟨z, hz⟩ : ∃ z, itmZ sh at' = z := ⟨_, rfl⟩
      obtain ⟨j, hj⟩ : ∃ j, itmJ sh i = j := ⟨_, rfl⟩
      rw [hz, hj]
      have hz' : an / N = z := by rw [← hz]; unfold itmZ; rw [gl, hN]; rfl
      have hzi : (an : Int) / (N : Int) = (z : Int) := by rw [← hz']; simp
      have hj0 : (i = (j : Int) ∨ (i + (N : Int) = (j : Int) ∧ i < 0)) ∧ j < N := by
        unfold itmJ at hj
        by_cases c : i < 0
        · rw [if_pos c] at hj; omega
        · rw [if_neg c] at hj; omega
      have hb : (j + 1) * z ≤ an := by
        have h1 : (j + 1) * z ≤ N * z := Nat.mul_le_mul_right _ hj0.2
        have h2 : N * z ≤ an := by rw [← hz']; exact Nat.mul_div_le _ _
        omega
      have key : ∀ {Q : Ending → World → Prop}, (∀ e w', (∃ o1 n1 c1 o2 c2, e = .returned (.tuple #[.agg #[.slice o1 n1 c1, .slice o2 z c2], .int .i64 0]) ∧ Ft 3 w' w.heap.size o1 n1 c1 (sh.drop 1) ∧ Ft 2 w' w.heap.size o2 z c2 ((at'.drop (j * z)).take z) ∧ apart o1 o2 ∧ Below w.heap.size w w') → Q e w') → Calls Tryz.prog 57 #[.agg #[.slice so sn sc, .slice ao an ac], .int .i64 i] w Q := by
        intro Q hQ
        by_cases hz0 : 0 < z
        · exact (item_some so ao sn sc an ac sh at' i w h hs g gs h0 N j z hN (by omega) (by omega) hj0.2 hj0.1 hzi hb hz0).mono hQ
        · cases ao with
          | none => exact (item_none so none sn sc an ac sh at' i w h hs g gs h0 N j z hN (by omega) (by omega) hj0.2 hj0.1 hzi hb (by omega) rfl).mono hQ
          | some a => exact (item_zero so (some a) sn sc an ac sh at' i w h hs g gs h0 N j z hN (by omega) (by omega) hj0.2 hj0.1 hzi hb (by omega) a rfl).mono hQ
      exact key fun e w' ⟨o1, n1, c1, o2, c2, x1, x2, x3, x4, x5⟩ => ⟨o1, n1, c1, o2, z, c2, x1, x2, x3, x4, x5⟩
  · have e0 := itmE_may (i := i) h0
    obtain ⟨e1, e2⟩ := itm_no (sh := sh) (at' := at') (i := i) (by rw [e0]; omega)
    rw [e0, e1, e2]
    exact (item_may so ao sn sc an ac sh at' i w h g h0).mono fun e w' ⟨x1, x2⟩ => ⟨none, 0, 0, none, 0, 0, x1, Ft.nil _ _ _, Ft.nil _ _ _, apart_nil _, x2⟩
end Go.Proofs.YtmepcenbaohcoaaGreat
