
/- Contracts: scalars and lists made. -/

import Derived.Test.YthncgocjegalhaaA4

import Derived.Handy

namespace Go.Proofs.Ythncgocjegalhaa

open Go.RowKit

set_option linter.unusedVariables false

theorem num1 {n : Int} (h1 : -9223372036854775808 ≤ n) (h2 : n ≤ 9223372036854775807) : ∀ k, k < [n].length → -9223372036854775808 ≤ nth [n] k ∧ nth [n] k ≤ 9223372036854775807 := by
  intro k hk
  simp at hk
  subst hk; exact ⟨h1, h2⟩

theorem scalar_any (n : Int) (w : World) (h1 : -9223372036854775808 ≤ n) (h2 : n ≤ 9223372036854775807) :
    Calls Try.prog 18 #[.int .i64 n] w fun e w' => ∃ ao c, e = .returned (.agg #[.slice none 0 0, .slice ao 1 c]) ∧ Ft 2 w' w.heap.size ao 1 c [n] ∧ Below w.heap.size w w' := by
  go_enter Try.func18, Try.ntmps18
  go_wp2
  go_returns
  refine ⟨_, _, rfl, ?_, ?_⟩
  · have := ft_new 2 (w.alloc (.cells #[.slice none 0 0, .slice (some ⟨w.heap.size + 1, 0, none⟩) 1 1] 36)) [n] (by simp) (num1 h1 h2)
    rw [World.size_alloc] at this
    exact this.mono (by omega)
  · exact (box_below w _).alloc (by simp) _

set_option maxHeartbeats 1000000 in
theorem list_any (ao : Option Addr) (n cap : Nat) (zs : List Int) (w : World) (h : Rd w ao n zs) (hs : Sl ao n cap) (hn : n ≤ 4096) :
    Calls Try.prog 16 #[.slice ao n cap] w fun e w' => ∃ so sc bo bc, e = .returned (.tuple #[.agg #[.slice so 1 sc, .slice bo n bc], .int .i64 0]) ∧ Ft 3 w' w.heap.size so 1 sc [(n : Int)] ∧ Ft 2 w' w.heap.size bo n bc zs ∧ apart so bo ∧ Below w.heap.size w w' := by
  have k0 := box_below w (.cells #[.slice none 0 0, .slice none 0 0] 36)
  have k1 := box_below (w.alloc (.cells #[.slice none 0 0, .slice none 0 0] 36)) (.cells #[.int .i64 (n : Nat)] 3)
  have f1 := ft_new 3 (w.alloc (.cells #[.slice none 0 0, .slice none 0 0] 36)) [(n : Int)] (by simp) (num1 (by omega) (by omega))
  have h' := (h.below k0 (Nat.le_refl _)).below k1 (Nat.le_refl _)
  have hc := clone8_any ao n cap zs _ h' hs
  have b0 := (k1.block w.heap.size (by simp)).trans (allocNew w (.cells #[.slice none 0 0, .slice none 0 0] 36))
  go_enter Try.func16, Try.ntmps16
  go_wp2_with (go_at_call 30; refine hc.mono ?_; rintro e w2 ⟨bo, bc, rfl, hf, hb⟩; obtain ⟨c0, c1, z0, z1⟩ := box2 ((hb.block w.heap.size (by simp; omega)).trans b0))
  (try simp only [Exit.inBlock, Exit.then])
  refine bodyPost_ret (v := .tuple #[.agg #[.slice (some ⟨w.heap.size + 1, 0, none⟩) 1 1, .slice bo n bc], .int .i64 0]) (by rw [results_cell_tmp rfl]; go_simp) rfl ?_
  have hs1 : w.heap.size + 1 + 1 ≤ w2.heap.size := by have := hb.size; simpa using this
  rw [World.size_alloc] at f1
  have f2 : Ft 3 w2 (w.heap.size + 1) (some ⟨w.heap.size + 1, 0, none⟩) 1 1 [(n : Int)] := f1.below hb (Nat.le_refl _)
  have hat := hf.at
  simp only [World.size_alloc] at hat
  refine ⟨_, _, _, _, rfl, (f2.keep1 (set2 _ _ _ _ _ _) (fun b off e => ?_)).mono (by omega), (hf.keep1 (set2 _ _ _ _ _ _) (fun b off e => ?_)).mono (by simp; omega), ?_, below_set2 _ _ _ _ (k0.trans ((k1.trans (hb.mono k1.size)).mono k0.size)) (Nat.le_refl _) (Nat.le_refl _)⟩
  · intro e'; cases e; simp at e'
  · intro e'; have := (hat b off e).1; cases e'; omega
  · rintro ⟨p, o, sp⟩ ⟨q, o', sp'⟩ e1 e2
    rcases hf.own.2 with ⟨e3, _⟩ | ⟨g, c, cur, e3, hB2, _⟩
    · cases e3; cases e2
    · cases e3; cases e1; cases e2; simp at hB2 ⊢; omega

theorem list_long (ao : Option Addr) (n cap : Nat) (w : World) (hn : 4096 < n) (hm : n ≤ 9223372036854775807) :
    Calls Try.prog 16 #[.slice ao n cap] w fun e w' => e = .returned (.tuple #[.agg #[.slice none 0 0, .slice none 0 0], .int .i64 17]) ∧ Below w.heap.size w w' := by
  go_enter Try.func16, Try.ntmps16
  go_wp2
  go_returns
  exact ⟨rfl, box_below w _⟩
end Go.Proofs.Ythncgocjegalhaa
