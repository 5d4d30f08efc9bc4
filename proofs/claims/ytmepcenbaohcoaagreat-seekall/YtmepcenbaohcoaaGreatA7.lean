
/- Contract: an item that there is. -/

import Derived.Test.YtmepcenbaohcoaaGreatA4

import Derived.Handy

import Derived.Deep.RegionHeld3

namespace Go.Proofs.YtmepcenbaohcoaaGreat

open Go.RowKit

set_option linter.unusedVariables false

theorem num1 {n : Int} (h1 : -9223372036854775808 ≤ n) (h2 : n ≤ 9223372036854775807) : ∀ k, k < [n].length → -9223372036854775808 ≤ nth [n] k ∧ nth [n] k ≤ 9223372036854775807 := by
  intro k hk
  simp at hk
  subst hk; exact ⟨h1, h2⟩

theorem scalar_any (n : Int) (w : World) (h1 : -9223372036854775808 ≤ n) (h2 : n ≤ 9223372036854775807) :
    Calls Tryz.prog 74 #[.int .i64 n] w fun e w' => ∃ ao c, e = .returned (.agg #[.slice none 0 0, .slice ao 1 c]) ∧ Ft 2 w' w.heap.size ao 1 c [n] ∧ Below w.heap.size w w' := by
  go_enter Tryz.func74, Tryz.ntmps74
  go_wp2
  go_returns
  refine ⟨_, _, rfl, ?_, ?_⟩
  · have := ft_new 2 (w.alloc (.cells #[.slice none 0 0, .slice (some ⟨w.heap.size + 1, 0, none⟩) 1 1] 30)) [n] (by simp) (num1 h1 h2)
    rw [World.size_alloc] at this
    exact this.mono (by omega)
  · exact (box_below w _).alloc (by simp) _

end Go.Proofs.YtmepcenbaohcoaaGreat

namespace Go.Proofs.YtmepcenbaohcoaaGreat

open Go.RowKit

set_option linter.unusedVariables false

/-- Between the statements of Item: its box, the answer's box, the lists. -/
structure It (w W : World) (so : Option Addr) (sn sc : Nat) (ao : Option Addr) (an ac : Nat) (sh at' : List Int) : Prop where
  c0 : W.cell? ⟨w.heap.size, 0, none⟩ = some (.slice so sn sc)
  c1 : W.cell? ⟨w.heap.size, 1, none⟩ = some (.slice ao an ac)
  r : W.heap[w.heap.size + 1]? = some (.cells #[.slice none 0 0, .slice none 0 0] 30 (0, 0))
  s : Rd W so sn sh
  a : Rd W ao an at'
  bel : Below w.heap.size w W
theorem It.below {w W W' : World} {so : Option Addr} {sn sc : Nat} {ao : Option Addr} {an ac : Nat} {sh at' : List Int} (h : It w W so sn sc ao an ac sh at') (k : Below W.heap.size W W') : It w W' so sn sc ao an ac sh at' := by
  have l0 := World.block_lt_of_cell? W _ h.c0
  have l1 := (Array.getElem?_eq_some_iff.1 h.r).1
  exact ⟨(k.cell (p := ⟨w.heap.size, 0, none⟩) l0).trans h.c0, (k.cell (p := ⟨w.heap.size, 1, none⟩) l0).trans h.c1, (k.block _ l1).trans h.r, h.s.below k (Nat.le_refl _), h.a.below k (Nat.le_refl _), h.bel.trans (k.mono h.bel.size)⟩
theorem It.drew {w W : World} {so : Option Addr} {sn sc : Nat} {ao : Option Addr} {an ac : Nat} {sh at' : List Int} (h : It w W so sn sc ao an ac sh at') : It w W.drew so sn sc ao an ac sh at' :=
  h.below (Below.refl _ W).drew
theorem it_start (w : World) (so : Option Addr) (sn sc : Nat) (ao : Option Addr) (an ac : Nat) (sh at' : List Int) (h : Rd w so sn sh) (g : Rd w ao an at') :
    It w ((w.alloc (.cells #[.slice so sn sc, .slice ao an ac] 30)).alloc (.cells #[.slice none 0 0, .slice none 0 0] 30)) so sn sc ao an ac sh at' := by
  have t := two_boxes w so ao none none sn sc an ac 0 0 0 0
  have b1 := allocNew (w.alloc (.cells #[.slice so sn sc, .slice ao an ac] 30)) (.cells #[.slice none 0 0, .slice none 0 0] 30)
  rw [World.size_alloc] at b1
  exact ⟨t.s0, t.a0, b1, h.below t.bel (Nat.le_refl _), g.below t.bel (Nat.le_refl _), t.bel⟩

set_option maxHeartbeats 1000000 in
theorem item_may (so ao : Option Addr) (sn sc an ac : Nat) (sh at' : List Int) (i : Int) (w : World) (h : Rd w so sn sh) (g : Rd w ao an at') (h0 : mayA sh at' ≠ 0) :
    Calls Tryz.prog 57 #[.agg #[.slice so sn sc, .slice ao an ac], .int .i64 i] w fun e w' => e = .returned (.tuple #[.agg #[.slice none 0 0, .slice none 0 0], .int .i64 1]) ∧ Below w.heap.size w w' := by
  have I0 := it_start w so sn sc ao an ac sh at' h g
  have hm := mayA_any so ao sn sc an ac sh at' _ I0.s I0.a
  have h0' : (mayA sh at' != 0) = true := by simpa using h0
  clear h0
  go_enter Tryz.func57, Tryz.ntmps57
  go_wp2_with (go_at_call 20; refine hm.mono ?_; rintro e w1 ⟨rfl, h1⟩; have I1 := I0.below h1; obtain ⟨c0, c1, z0, z1⟩ := box2 I1.r)
  (try simp only [Exit.inBlock, Exit.then])
  refine bodyPost_ret (v := .tuple #[.agg #[.slice none 0 0, .slice none 0 0], .int .i64 1]) (by rw [results_cell_tmp rfl]; go_simp) rfl ?_
  exact ⟨rfl, below_set2 _ _ _ _ I1.bel (by omega) (Nat.le_refl _)⟩

set_option maxHeartbeats 1000000 in
theorem item_out (so ao : Option Addr) (sn sc an ac : Nat) (sh at' : List Int) (i : Int) (w : World) (h : Rd w so sn sh) (g : Rd w ao an at') (h0 : mayA sh at' = 0) (N : Nat) (hN : tal sh = N) (hN4 : N ≤ 4096) (hi : i < -(N : Int) ∨ (N : Int) ≤ i) :
    Calls Tryz.prog 57 #[.agg #[.slice so sn sc, .slice ao an ac], .int .i64 i] w fun e w' => e = .returned (.tuple #[.agg #[.slice none 0 0, .slice none 0 0], .int .i64 13]) ∧ Below w.heap.size w w' := by
  have I0 := it_start w so sn sc ao an ac sh at' h g
  have hm := mayA_any so ao sn sc an ac sh at' _ I0.s I0.a
  have ht := fun W (x : Rd W so sn sh) => tally_any so ao sn sc an ac sh W x
  rw [h0] at hm
  rw [hN] at ht
  clear h0 hN
  have hi' : (decide (i < -(N : Int)) = true) ∨ (decide (i < -(N : Int)) = false ∧ decide ((N : Int) ≤ i) = true) := by
    simp only [decide_eq_true_eq, decide_eq_false_iff_not]; omega
  clear hi
  rcases hi' with hi | ⟨hi, hj⟩
  all_goals
    go_enter Tryz.func57, Tryz.ntmps57
    go_wp2_with (first
      | (go_at_call 20; refine hm.mono ?_; rintro e w1 ⟨rfl, h1⟩; have I1 := I0.below h1; obtain ⟨p0, p1, _, _, _, _⟩ := I1)
      | (go_at_call 79; refine (ht _ (I0.below h1).s).mono ?_; rintro e w2 ⟨rfl, h2⟩; have I2 := (I0.below h1).below h2; obtain ⟨c0, c1, z0, z1⟩ := box2 I2.r))
    (try simp only [Exit.inBlock, Exit.then])
    refine bodyPost_ret (v := .tuple #[.agg #[.slice none 0 0, .slice none 0 0], .int .i64 13]) (by rw [results_cell_tmp rfl]; go_simp) rfl ?_
    exact ⟨rfl, below_set2 _ _ _ _ I2.bel (by omega) (Nat.le_refl _)⟩
end Go.Proofs.YtmepcenbaohcoaaGreat

namespace Go.Proofs.YtmepcenbaohcoaaGreat

open Go.RowKit

set_option linter.unusedVariables false

theorem wrapIn (n : Int) (h : -9223372036854775808 ≤ n ∧ n ≤ 9223372036854775807) : IntKind.i64.wrap n = n := by rw [IntKind.wrap_i64]; omega

/-- What stays between the parts of Item's last statement. -/
structure Iu (w W : World) (so : Option Addr) (sn sc : Nat) (ao : Option Addr) (an ac : Nat) (sh at' : List Int) : Prop where
  c0 : W.cell? ⟨w.heap.size, 0, none⟩ = some (.slice so sn sc)
  c1 : W.cell? ⟨w.heap.size, 1, none⟩ = some (.slice ao an ac)
  r : ∃ x y, W.heap[w.heap.size + 1]? = some (.cells #[x, y] 30 (0, 0))
  s : Rd W so sn sh
  a : Rd W ao an at'
  bel : Below w.heap.size w W
theorem It.u {w W : World} {so : Option Addr} {sn sc : Nat} {ao : Option Addr} {an ac : Nat} {sh at' : List Int} (h : It w W so sn sc ao an ac sh at') : Iu w W so sn sc ao an ac sh at' := ⟨h.c0, h.c1, ⟨_, _, h.r⟩, h.s, h.a, h.bel⟩
theorem Iu.below {w W W' : World} {so : Option Addr} {sn sc : Nat} {ao : Option Addr} {an ac : Nat} {sh at' : List Int} (h : Iu w W so sn sc ao an ac sh at') (k : Below W.heap.size W W') : Iu w W' so sn sc ao an ac sh at' := by
  obtain ⟨x, y, hr⟩ := h.r
  have l0 := World.block_lt_of_cell? W _ h.c0
  have l1 := (Array.getElem?_eq_some_iff.1 hr).1
  exact ⟨(k.cell (p := ⟨w.heap.size, 0, none⟩) l0).trans h.c0, (k.cell (p := ⟨w.heap.size, 1, none⟩) l0).trans h.c1, ⟨x, y, (k.block _ l1).trans hr⟩, h.s.below k (Nat.le_refl _), h.a.below k (Nat.le_refl _), h.bel.trans (k.mono h.bel.size)⟩
theorem Iu.drew {w W : World} {so : Option Addr} {sn sc : Nat} {ao : Option Addr} {an ac : Nat} {sh at' : List Int} (h : Iu w W so sn sc ao an ac sh at') : Iu w W.drew so sn sc ao an ac sh at' :=
  h.below (Below.refl _ W).drew
theorem Rd.keep0 {w w' : World} {row : Option Nat} {ao : Option Addr} {n : Nat} {zs : List Int} (h : Rd w ao n zs) (hg : w.grownBy w' row) (hne : 0 < n → ∀ b off, ao = some ⟨b, off, none⟩ → some b ≠ row) : Rd w' ao n zs := by
  by_cases h0 : 0 < n
  · exact h.keep1 hg (hne h0)
  · obtain rfl : n = 0 := by omega
    have hz : zs = [] := List.eq_nil_of_length_eq_zero h.len
    subst hz; exact Rd.empty _ _
theorem Iu.set {w W : World} {so : Option Addr} {sn sc : Nat} {ao : Option Addr} {an ac : Nat} {sh at' : List Int} (h : Iu w W so sn sc ao an ac sh at') (hs : 0 < sn → ∀ b off, so = some ⟨b, off, none⟩ → b < w.heap.size) (ha : 0 < an → ∀ b off, ao = some ⟨b, off, none⟩ → b < w.heap.size) (u v : Value) :
    Iu w ((W.setCell ⟨w.heap.size + 1, 0, none⟩ u).setCell ⟨w.heap.size + 1, 1, none⟩ v) so sn sc ao an ac sh at' := by
  have k := set2 W (w.heap.size + 1) 0 1 u v
  obtain ⟨x, y, hr⟩ := h.r
  refine ⟨k.cell h.c0 (by simp), k.cell h.c1 (by simp), ⟨u, v, ?_⟩, h.s.keep0 k (fun h0 b off e => by have := hs h0 b off e; intro e'; cases e'; omega), h.a.keep0 k (fun h0 b off e => by have := ha h0 b off e; intro e'; cases e'; omega), below_set2 _ _ _ _ h.bel (by omega) (Nat.le_refl _)⟩
  have h1 := heap_setCell_same W (w.heap.size + 1) 0 _ 30 u hr
  have h2 := heap_setCell_same _ (w.heap.size + 1) 1 _ 30 v h1
  simpa using h2
theorem Iu.all {w W : World} {so : Option Addr} {sn sc : Nat} {ao : Option Addr} {an ac : Nat} {sh at' : List Int} (h : Iu w W so sn sc ao an ac sh at') : W.cell? ⟨w.heap.size, 0, none⟩ = some (.slice so sn sc) ∧ W.cell? ⟨w.heap.size, 1, none⟩ = some (.slice ao an ac) ∧ Iu w W so sn sc ao an ac sh at' := ⟨h.c0, h.c1, h⟩

theorem Rd.part {w : World} {b off n lo hi z : Nat} {zs : List Int} (h : Rd w (some ⟨b, off, none⟩) n zs) (h1 : lo + z = hi) (h2 : hi ≤ n) : Rd w (some ⟨b, off + lo, none⟩) (hi - lo) ((zs.drop lo).take z) := by
  have := (h.dropAt lo (by omega)).take z (by omega)
  rwa [show hi - lo = z by omega]
theorem Rd.lt {w : World} {ao : Option Addr} {n : Nat} {zs : List Int} (h : Rd w ao n zs) (h0 : 0 < n) : ∀ b off, ao = some ⟨b, off, none⟩ → b < w.heap.size := by
  rintro b off rfl
  obtain ⟨b', off', e, hb, _⟩ := h.cells h0
  cases e; exact hb

theorem item_end {w W2 w3 w4 w5 : World} {o4 o5 : Option Addr} {n4 c4 n5 c5 : Nat} {l4 l5 : List Int} (hsz : w.heap.size + 1 < W2.heap.size) (h3 : Below W2.drew.heap.size W2.drew w3) (f4 : Ft 3 w4 w3.heap.size o4 n4 c4 l4) (h4 : Below w3.heap.size w3 w4) (f5 : Ft 2 w5 w4.heap.size o5 n5 c5 l5) (h5 : Below w4.heap.size w4 w5) (bel : Below w.heap.size w w5) :
    ∃ o1 n1 c1 o2 c2, Ending.returned (.tuple #[.agg #[.slice o4 n4 c4, .slice o5 n5 c5], .int .i64 0]) = .returned (.tuple #[.agg #[.slice o1 n1 c1, .slice o2 n5 c2], .int .i64 0]) ∧ Ft 3 ((w5.setCell ⟨w.heap.size + 1, 0, none⟩ (.slice o4 n4 c4)).setCell ⟨w.heap.size + 1, 1, none⟩ (.slice o5 n5 c5)) w.heap.size o1 n1 c1 l4 ∧
      Ft 2 ((w5.setCell ⟨w.heap.size + 1, 0, none⟩ (.slice o4 n4 c4)).setCell ⟨w.heap.size + 1, 1, none⟩ (.slice o5 n5 c5)) w.heap.size o2 n5 c2 l5 ∧ apart o1 o2 ∧ Below w.heap.size w ((w5.setCell ⟨w.heap.size + 1, 0, none⟩ (.slice o4 n4 c4)).setCell ⟨w.heap.size + 1, 1, none⟩ (.slice o5 n5 c5)) := by
  have s3 : W2.heap.size ≤ w3.heap.size := h3.size
  have s4 := h4.size
  have s5 := h5.size
  have a4 := f4.at
  have a5 := f5.at
  have k := set2 w5 (w.heap.size + 1) 0 1 (.slice o4 n4 c4) (.slice o5 n5 c5)
  refine ⟨o4, n4, c4, o5, c5, rfl, ((f4.below h5 (Nat.le_refl _)).keep1 k (fun b off e => ?_)).mono (by omega), (f5.keep1 k (fun b off e => ?_)).mono (by omega), ?_, below_set2 _ _ _ _ bel (by omega) (Nat.le_refl _)⟩
  · have := (a4 b off e).1; intro e'; cases e'; omega
  · have := (a5 b off e).1; intro e'; cases e'; omega
  · intro p q e1 e2
    rcases f4.own.2 with ⟨e3, _⟩ | ⟨g, c, cur, e3, hB, hg, _⟩
    · cases e3; cases e1
    · rcases f5.own.2 with ⟨e4, _⟩ | ⟨g2, c2, cur2, e4, hB2, _⟩
      · cases e4; cases e2
      · cases e3; cases e4; cases e1; cases e2
        have := (Array.getElem?_eq_some_iff.1 hg).1
        simp; omega

set_option maxHeartbeats 4000000 in
set_option maxRecDepth 20000 in
theorem item_some (so ao : Option Addr) (sn sc an ac : Nat) (sh at' : List Int) (i : Int) (w : World) (h : Rd w so sn sh) (hs : Sl so sn sc) (g : Rd w ao an at') (gs : Sl ao an ac) (h0 : mayA sh at' = 0) (N j z : Nat) (hN : tal sh = N) (hN4 : N ≤ 4096) (han : an ≤ 4096) (hj : j < N) (hi0 : i = j ∨ (i + N = j ∧ i < 0)) (hz : (an : Int) / (N : Int) = z) (hb : (j + 1) * z ≤ an) (hz1 : 0 < z) :
    Calls Tryz.prog 57 #[.agg #[.slice so sn sc, .slice ao an ac], .int .i64 i] w fun e w' => ∃ o1 n1 c1 o2 c2, e = .returned (.tuple #[.agg #[.slice o1 n1 c1, .slice o2 z c2], .int .i64 0]) ∧ Ft 3 w' w.heap.size o1 n1 c1 (sh.drop 1) ∧ Ft 2 w' w.heap.size o2 z c2 ((at'.drop (j * z)).take z) ∧ apart o1 o2 ∧ Below w.heap.size w w' := by
  have hsl := fun h0 => h.lt h0
  have hal := fun h0 => g.lt h0
  have I0 := it_start w so sn sc ao an ac sh at' h g
  have hm := mayA_any so ao sn sc an ac sh at' _ I0.s I0.a
  have ht := fun W (x : Rd W so sn sh) => tally_any so ao sn sc an ac sh W x
  rw [h0] at hm
  rw [hN] at ht
  clear h0 hN
  have hN0 : ((N : Int) == 0) = false := by simp; omega
  have hgle := gs.le
  have hgmx := gs.max
  obtain ⟨lo, hlo⟩ : ∃ lo : Nat, j * z = lo := ⟨_, rfl⟩
  obtain ⟨hi, hhi⟩ : ∃ hi : Nat, lo + z = hi := ⟨_, rfl⟩
  have m1 : ((j : Int) * (z : Int)) = (lo : Int) := by rw [← hlo]; simp
  have m2 : (((j : Int) + 1) * (z : Int)) = (hi : Int) := by rw [Int.add_mul, m1, ← hhi]; simp
  rw [Nat.add_mul, Nat.one_mul, hlo, hhi] at hb
  rw [hlo]
  have HH : Hid (lo + z = hi) := hhi
  have HZ : Hid (hi - lo = z) := by show _ = _; omega
  have b1 : (lo : Int) ≤ (hi : Int) := by omega
  have b2 : (hi : Int) ≤ (ac : Int) := by omega
  have b3 : (lo : Int) < (ac : Int) := by omega
  have b4 : lo < ac := by omega
  have b5 : ¬ ac = lo := by omega
  have b6 : (hi : Int) ≤ 4096 := by omega
  have b7 : (z : Int) ≤ 4096 := by omega
  obtain ⟨b, off, rfl, _, _⟩ := g.cells (by omega)
  clear hlo hhi
  have w1 : IntKind.i64.wrap (lo : Int) = (lo : Int) := wrapIn _ (by omega)
  have w2 : IntKind.i64.wrap ((j : Int) + 1) = (j : Int) + 1 := wrapIn _ (by omega)
  have w3 : IntKind.i64.wrap (hi : Int) = (hi : Int) := wrapIn _ (by omega)
  have hw : (i = (j : Int)) ∨ (-(N : Int) ≤ i ∧ i < (N : Int) ∧ i < 0 ∧ i + (N : Int) = (j : Int)) := by omega
  have hj1 : (j : Int) < N := by omega
  have hj2 : -(N : Int) ≤ j := by omega
  clear hi0
  rcases hw with rfl | ⟨d1, d2, d3, d4⟩
  all_goals
    go_enter Tryz.func57, Tryz.ntmps57
    go_wp2_with (first
      | (go_at_call 20; refine hm.mono ?_; rintro e W1 ⟨rfl, h1⟩; have I1 := I0.below h1; obtain ⟨p0, p1, _, _, _, _⟩ := I1)
      | (go_at_call 79; refine (ht _ (I0.below h1).s).mono ?_; rintro e W2 ⟨rfl, h2⟩; have I2 := ((I0.below h1).below h2).u; obtain ⟨q0, q1, _, _, _, _⟩ := I2))
    have I2 := ((I0.below h1).below h2).u
    have hsz : w.heap.size + 1 < W2.heap.size := (Array.getElem?_eq_some_iff.1 ((I0.below h1).below h2).r).1
    go_region_held3 (fun W => W.cell? ⟨w.heap.size, 0, none⟩ = some (.slice so sn sc) ∧ W.cell? ⟨w.heap.size, 1, none⟩ = some (.slice (some ⟨b, off, none⟩) an ac) ∧ Iu w W so sn sc (some ⟨b, off, none⟩) an ac sh at') (first | exact Iu.all (by assumption) | exact Iu.all (Iu.drew (by assumption)) | exact Iu.all (Iu.set (by assumption) hsl hal _ _))
      (first
        | (go_at_call 81; refine (itemShape_any so _ sn sc an ac sh _ (‹_ ∧ _ ∧ Iu w _ so sn sc _ an ac sh at'›).2.2.s hs).mono ?_; rintro e w3 ⟨o3, c3, rfl, r3, s3, h3⟩; have I3 := (‹_ ∧ _ ∧ Iu w _ so sn sc _ an ac sh at'›).2.2.below h3)
        | (go_at_call 80; refine (clone_any _ _ _ _ _ r3 s3).mono ?_; rintro e w4 ⟨o4, c4, rfl, f4, h4⟩; have I4 := I3.below h4)
        | (go_at_call 82; refine (clone8_any _ _ _ _ _ (((‹_ ∧ _ ∧ Iu w _ so sn sc _ an ac sh at'›).2.2.a).part HH.out hb) ⟨fun e => (by cases e), by omega, by omega⟩).mono ?_; rintro e w5 ⟨o5, c5, rfl, f5, h5⟩; have I5 := I4.below h5; obtain ⟨x5, y5, hr5⟩ := I5.r; obtain ⟨k0, k1, z0, z1⟩ := box2 hr5))
    go_wp2
    (try simp only [Exit.inBlock, Exit.then])
    refine bodyPost_ret (v := .tuple #[.agg #[.slice o4 (sn - 1) c4, .slice o5 (hi - lo) c5], .int .i64 0]) (by rw [results_cell_tmp rfl]; go_simp) rfl ?_
    have hf5 := HZ.out
    rw [hf5] at f5 ⊢
    exact item_end hsz h3 f4 h4 f5 h5 I5.bel
end Go.Proofs.YtmepcenbaohcoaaGreat
