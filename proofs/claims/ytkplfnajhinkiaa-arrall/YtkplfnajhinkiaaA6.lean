
/- Contract: an item. -/

import Derived.Test.YtkplfnajhinkiaaA4
import Derived.Handy
import Derived.Deep.RegionHeld3


namespace Go.Proofs.Ytkplfnajhinkiaa

open Go.RowKit

set_option linter.unusedVariables false

theorem num1 {n : Int} (h1 : -9223372036854775808 ≤ n) (h2 : n ≤ 9223372036854775807) : ∀ k, k < [n].length → -9223372036854775808 ≤ nth [n] k ∧ nth [n] k ≤ 9223372036854775807 := by
  intro k hk
  simp at hk
  subst hk; exact ⟨h1, h2⟩

theorem scalar_any (n : Int) (w : World) (h1 : -9223372036854775808 ≤ n) (h2 : n ≤ 9223372036854775807) :
    Calls Try.prog 64 #[.int .i64 n] w fun e w' => ∃ ao c, e = .returned (.agg #[.slice none 0 0, .slice ao 1 c]) ∧ Ft 2 w' w.heap.size ao 1 c [n] ∧ Below w.heap.size w w' := by
  go_enter Try.func64, Try.ntmps64
  go_wp2
  go_returns
  refine ⟨_, _, rfl, ?_, ?_⟩
  · have := ft_new 2 (w.alloc (.cells #[.slice none 0 0, .slice (some ⟨w.heap.size + 1, 0, none⟩) 1 1] 55)) [n] (by simp) (num1 h1 h2)
    rw [World.size_alloc] at this
    exact this.mono (by omega)
  · exact (box_below w _).alloc (by simp) _

set_option maxHeartbeats 1000000 in
theorem list_any (ao : Option Addr) (n cap : Nat) (zs : List Int) (w : World) (h : Rd w ao n zs) (hs : Sl ao n cap) (hn : n ≤ 4096) :
    Calls Try.prog 62 #[.slice ao n cap] w fun e w' => ∃ so sc bo bc, e = .returned (.tuple #[.agg #[.slice so 1 sc, .slice bo n bc], .int .i64 0]) ∧ Ft 3 w' w.heap.size so 1 sc [(n : Int)] ∧ Ft 2 w' w.heap.size bo n bc zs ∧ apart so bo ∧ Below w.heap.size w w' := by
  have k0 := box_below w (.cells #[.slice none 0 0, .slice none 0 0] 55)
  have k1 := box_below (w.alloc (.cells #[.slice none 0 0, .slice none 0 0] 55)) (.cells #[.int .i64 (n : Nat)] 3)
  have f1 := ft_new 3 (w.alloc (.cells #[.slice none 0 0, .slice none 0 0] 55)) [(n : Int)] (by simp) (num1 (by omega) (by omega))
  have h' := (h.below k0 (Nat.le_refl _)).below k1 (Nat.le_refl _)
  have hc := clone8_any ao n cap zs _ h' hs
  have b0 := (k1.block w.heap.size (by simp)).trans (allocNew w (.cells #[.slice none 0 0, .slice none 0 0] 55))
  go_enter Try.func62, Try.ntmps62
  go_wp2_with (go_at_call 126; refine hc.mono ?_; rintro e w2 ⟨bo, bc, rfl, hf, hb⟩; obtain ⟨c0, c1, z0, z1⟩ := box2 ((hb.block w.heap.size (by simp; omega)).trans b0))
  (try simp only [Exit.inBlock, Exit.then])
  refine bodyPost_ret (v := .tuple #[.agg #[.slice (some ⟨w.heap.size + 1, 0, none⟩) 1 1, .slice bo n bc], .int .i64 0]) (by rw [results_cell_tmp rfl]; go_simp) rfl ?_
  have hs1 : w.heap.size + 1 + 1 ≤ w2.heap.size := by have := hb.size; simpa using this
  rw [World.size_alloc] at f1
  have f2 : Ft 3 w2 (w.heap.size + 1) (some ⟨w.heap.size + 1, 0, none⟩) 1 1 [(n : Int)] := f1.below hb (Nat.le_refl _)
  have hat := hf.at
  simp only [World.size_alloc] at hat
  refine ⟨_, _, _, _, rfl, (f2.keep1 (set2 _ _ _ _ _ _) (fun b off e => ?_)).mono (by omega), (hf.keep1 (set2 _ _ _ _ _ _) (fun b off e => ?_)).mono (by simp; omega), ?_, below_set2 _ _ _ _ (k0.trans ((k1.trans (hb.mono k1.size)).mono k0.size)) (Nat.le_refl _) (Nat.le_refl _)⟩
  · intro e'; cases e; simp at e'
  · intro e'; have := (hat b off e).1; cases e'; omega
  · rintro ⟨p, o, sp⟩ ⟨q, o', sp'⟩ e1 e2
    rcases hf.own.2 with ⟨e3, _⟩ | ⟨g, c, cur, e3, hB2, _⟩
    · cases e3; cases e2
    · cases e3; cases e1; cases e2; simp at hB2 ⊢; omega

theorem list_long (ao : Option Addr) (n cap : Nat) (w : World) (hn : 4096 < n) (hm : n ≤ 9223372036854775807) :
    Calls Try.prog 62 #[.slice ao n cap] w fun e w' => e = .returned (.tuple #[.agg #[.slice none 0 0, .slice none 0 0], .int .i64 17]) ∧ Below w.heap.size w w' := by
  go_enter Try.func62, Try.ntmps62
  go_wp2
  go_returns
  exact ⟨rfl, box_below w _⟩
end Go.Proofs.Ytkplfnajhinkiaa



namespace Go.Proofs.Ytkplfnajhinkiaa

open Go.RowKit

set_option linter.unusedVariables false

/-- Between the statements of Item: its box, the answer's box, the lists. -/
structure It (w W : World) (so : Option Addr) (sn sc : Nat) (ao : Option Addr) (an ac : Nat) (sh at' : List Int) : Prop where
  c0 : W.cell? ⟨w.heap.size, 0, none⟩ = some (.slice so sn sc)
  c1 : W.cell? ⟨w.heap.size, 1, none⟩ = some (.slice ao an ac)
  r : W.heap[w.heap.size + 1]? = some (.cells #[.slice none 0 0, .slice none 0 0] 55 (0, 0))
  s : Rd W so sn sh
  a : Rd W ao an at'
  bel : Below w.heap.size w W
theorem It.below {w W W' : World} {so : Option Addr} {sn sc : Nat} {ao : Option Addr} {an ac : Nat} {sh at' : List Int} (h : It w W so sn sc ao an ac sh at') (k : Below W.heap.size W W') : It w W' so sn sc ao an ac sh at' := by
  have l0 := World.block_lt_of_cell? W _ h.c0
  have l1 := (Array.getElem?_eq_some_iff.1 h.r).1
  exact ⟨(k.cell (p := ⟨w.heap.size, 0, none⟩) l0).trans h.c0, (k.cell (p := ⟨w.heap.size, 1, none⟩) l0).trans h.c1, (k.block _ l1).trans h.r, h.s.below k (Nat.le_refl _), h.a.below k (Nat.le_refl _), h.bel.trans (k.mono h.bel.size)⟩
theorem It.drew {w W : World} {so : Option Addr} {sn sc : Nat} {ao : Option Addr} {an ac : Nat} {sh at' : List Int} (h : It w W so sn sc ao an ac sh at') : It w W.drew so sn sc ao an ac sh at' :=
  h.below (Below.refl _ W).drew
theorem it_start (w : World) (so : Option Addr) (sn sc : Nat) (ao : Option Addr) (an ac : Nat) (sh at' : List Int) (h : Rd w so sn sh) (g : Rd w ao an at') :
    It w ((w.alloc (.cells #[.slice so sn sc, .slice ao an ac] 55)).alloc (.cells #[.slice none 0 0, .slice none 0 0] 55)) so sn sc ao an ac sh at' := by
  have t := two_boxes w so ao none none sn sc an ac 0 0 0 0
  have b1 := allocNew (w.alloc (.cells #[.slice so sn sc, .slice ao an ac] 55)) (.cells #[.slice none 0 0, .slice none 0 0] 55)
  rw [World.size_alloc] at b1
  exact ⟨t.s0, t.a0, b1, h.below t.bel (Nat.le_refl _), g.below t.bel (Nat.le_refl _), t.bel⟩

set_option maxHeartbeats 1000000 in
theorem item_may (so ao : Option Addr) (sn sc an ac : Nat) (sh at' : List Int) (i : Int) (w : World) (h : Rd w so sn sh) (g : Rd w ao an at') (h0 : mayA sh at' ≠ 0) :
    Calls Try.prog 63 #[.agg #[.slice so sn sc, .slice ao an ac], .int .i64 i] w fun e w' => e = .returned (.tuple #[.agg #[.slice none 0 0, .slice none 0 0], .int .i64 1]) ∧ Below w.heap.size w w' := by
  have I0 := it_start w so sn sc ao an ac sh at' h g
  have hm := mayA_any so ao sn sc an ac sh at' _ I0.s I0.a
  have h0' : (mayA sh at' != 0) = true := by simpa using h0
  clear h0
  go_enter Try.func63, Try.ntmps63
  go_wp2_with (go_at_call 67; refine hm.mono ?_; rintro e w1 ⟨rfl, h1⟩; have I1 := I0.below h1; obtain ⟨c0, c1, z0, z1⟩ := box2 I1.r)
  (try simp only [Exit.inBlock, Exit.then])
  refine bodyPost_ret (v := .tuple #[.agg #[.slice none 0 0, .slice none 0 0], .int .i64 1]) (by rw [results_cell_tmp rfl]; go_simp) rfl ?_
  exact ⟨rfl, below_set2 _ _ _ _ I1.bel (by omega) (Nat.le_refl _)⟩

set_option maxHeartbeats 1000000 in
theorem item_out (so ao : Option Addr) (sn sc an ac : Nat) (sh at' : List Int) (i : Int) (w : World) (h : Rd w so sn sh) (g : Rd w ao an at') (h0 : mayA sh at' = 0) (N : Nat) (hN : tal sh = N) (hN4 : N ≤ 4096) (hi : i < -(N : Int) ∨ (N : Int) ≤ i) :
    Calls Try.prog 63 #[.agg #[.slice so sn sc, .slice ao an ac], .int .i64 i] w fun e w' => e = .returned (.tuple #[.agg #[.slice none 0 0, .slice none 0 0], .int .i64 13]) ∧ Below w.heap.size w w' := by
  have I0 := it_start w so sn sc ao an ac sh at' h g
  have hm := mayA_any so ao sn sc an ac sh at' _ I0.s I0.a
  have ht := fun W (x : Rd W so sn sh) => tally_any so ao sn sc an ac sh W x
  rw [h0] at hm
  rw [hN] at ht
  clear h0 hN
  have hi' : (decide (i < -(N : Int)) = true) ∨ (decide (i < -(N : Int)) = false ∧ decide ((N : Int) ≤ i) = true) := by
    simp only [decide_eq_true_eq, decide_eq_false_iff_not]; omega
  clear hi
  rcases hi' with hi | ⟨hi, hj⟩
  all_goals
    go_enter Try.func63, Try.ntmps63
    go_wp2_with (first
      | (go_at_call 67; refine hm.mono ?_; rintro e w1 ⟨rfl, h1⟩; have I1 := I0.below h1; obtain ⟨p0, p1, _, _, _, _⟩ := I1)
      | (go_at_call 127; refine (ht _ (I0.below h1).s).mono ?_; rintro e w2 ⟨rfl, h2⟩; have I2 := (I0.below h1).below h2; obtain ⟨c0, c1, z0, z1⟩ := box2 I2.r))
    (try simp only [Exit.inBlock, Exit.then])
    refine bodyPost_ret (v := .tuple #[.agg #[.slice none 0 0, .slice none 0 0], .int .i64 13]) (by rw [results_cell_tmp rfl]; go_simp) rfl ?_
    exact ⟨rfl, below_set2 _ _ _ _ I2.bel (by omega) (Nat.le_refl _)⟩
end Go.Proofs.Ytkplfnajhinkiaa
