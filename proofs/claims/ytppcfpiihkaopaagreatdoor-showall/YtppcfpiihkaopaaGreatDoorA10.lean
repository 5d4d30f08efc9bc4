
/- Contract: a list of one number over and over, by package slices. -/

import Derived.Test.YtppcfpiihkaopaaGreatDoorSize

import Derived.Test.YtppcfpiihkaopaaGreatDoorA4

import Derived.Handy

import Derived.Deep.RegionHeld3

import Derived.Laws.Bits64b

import Derived.Laws.CopyOwn

import Derived.IntWalk

import Derived.Deep.OwnRows

namespace Go.Proofs.YtppcfpiihkaopaaGreatDoor

set_option linter.unusedVariables false

theorem pr_foldl (l : List Int) : ∀ a : Int, l.foldl (fun p z => p * z) a = a * pr l := by
  induction l with
  | nil => intro a; simp [pr]
  | cons z l ih => intro a; simp only [pr, List.foldl_cons]; rw [ih, ih (1 * z), Int.one_mul, Int.mul_assoc]
theorem pr_cons (z : Int) (l : List Int) : pr (z :: l) = z * pr l := by
  show (z :: l).foldl (fun p z => p * z) 1 = _
  rw [List.foldl_cons, pr_foldl, Int.one_mul]
theorem pr_app (a b : List Int) : pr (a ++ b) = pr a * pr b := by
  show (a ++ b).foldl (fun p z => p * z) 1 = _
  rw [List.foldl_append, pr_foldl]; rfl
theorem drop_nth {zs : List Int} {k : Nat} (h : k < zs.length) : zs.drop k = nth zs k :: zs.drop (k + 1) := by
  rw [List.drop_eq_getElem_cons h, nth_lt h]
theorem pr_drop {zs : List Int} {k : Nat} (h : k < zs.length) : pr (zs.drop k) = nth zs k * pr (zs.drop (k + 1)) := by
  rw [drop_nth h, pr_cons]

/-- All lengths are at least 1. -/
def allPos (zs : List Int) : Prop := ∀ k, k < zs.length → 1 ≤ nth zs k
theorem drop_pos {zs : List Int} (h : allPos zs) : ∀ m k, m + k = zs.length → 1 ≤ pr (zs.drop k)
  | 0, k, e => by rw [List.drop_eq_nil_of_le (by omega)]; simp [pr]
  | m + 1, k, e => by
    have ih := drop_pos h m (k + 1) (by omega)
    have hz := h k (by omega)
    rw [pr_drop (by omega)]
    have := Int.mul_le_mul hz ih (by omega) (by omega)
    omega
theorem drop_pos' {zs : List Int} (h : allPos zs) (k : Nat) (hk : k ≤ zs.length) : 1 ≤ pr (zs.drop k) := drop_pos h (zs.length - k) k (by omega)

theorem allPos_of {zs : List Int} (h0 : mayF zs = 0) {p : Int} (hp : 0 ≤ p) (hlt : p < pr zs) : allPos zs := by
  intro k hk
  have := (mayF_zero h0).1 k hk
  by_cases e : nth zs k = 0
  · have h1 : pr zs = 0 := by
      have h2 := List.take_append_drop k zs
      rw [← h2, pr_app, pr_drop hk, e, Int.zero_mul, Int.mul_zero]
    omega
  · omega

/-- The k-th index of a place. -/
def dg (zs : List Int) (p : Int) (k : Nat) : Int := (p / pr (zs.drop (k + 1))) % nth zs k
/-- All indices of a place, those ahead of axis m left 0. -/
def digK (zs : List Int) (p : Int) (m : Nat) : List Int := (List.range zs.length).map fun i => if m ≤ i then dg zs p i else 0
def digs (zs : List Int) (p : Int) : List Int := digK zs p 0

theorem digK_len (zs : List Int) (p : Int) (m : Nat) : (digK zs p m).length = zs.length := by simp [digK]
theorem digs_len (zs : List Int) (p : Int) : (digs zs p).length = zs.length := digK_len _ _ _
theorem nth_digK {zs : List Int} {p : Int} {m k : Nat} (h : k < zs.length) : nth (digK zs p m) k = if m ≤ k then dg zs p k else 0 := by
  unfold digK nth; simp [h]
theorem nth_digs {zs : List Int} {p : Int} {k : Nat} (h : k < zs.length) : nth (digs zs p) k = dg zs p k := by
  unfold digs; rw [nth_digK h, if_pos (Nat.zero_le _)]
theorem digK_step {zs : List Int} {p : Int} {m : Nat} (h : m < zs.length) : digK zs p m = (digK zs p (m + 1)).set m (dg zs p m) := by
  apply ext_nth (by rw [List.length_set, digK_len, digK_len])
  intro k hk
  rw [digK_len] at hk
  by_cases e : k = m
  · subst e
    rw [nth_digK hk, if_pos (Nat.le_refl _)]
    simp [nth, digK_len, hk]
  · have : nth ((digK zs p (m + 1)).set m (dg zs p m)) k = nth (digK zs p (m + 1)) k := by
      simp [nth, Ne.symm e]
    rw [this, nth_digK hk, nth_digK hk]
    by_cases c : m ≤ k
    · rw [if_pos c, if_pos (by omega)]
    · rw [if_neg c, if_neg (by omega)]
theorem quo_step {zs : List Int} {p : Int} {m : Nat} (h : m < zs.length) (hp : allPos zs) : p / pr (zs.drop m) = p / pr (zs.drop (m + 1)) / nth zs m := by
  rw [pr_drop h, Int.mul_comm, Int.ediv_ediv_of_nonneg (by have := drop_pos' hp (m + 1) (by omega); omega)]
theorem dg_bd {zs : List Int} {p : Int} {m : Nat} (h : m < zs.length) (hp : allPos zs) : 0 ≤ dg zs p m ∧ dg zs p m < nth zs m := by
  have := hp m h
  exact ⟨Int.emod_nonneg _ (by omega), Int.emod_lt_of_pos _ (by omega)⟩
theorem quo_bd {zs : List Int} {p : Int} {m : Nat} (h : m ≤ zs.length) (hp : allPos zs) (h0 : 0 ≤ p) : 0 ≤ p / pr (zs.drop m) ∧ p / pr (zs.drop m) ≤ p := by
  have := drop_pos' hp m h
  exact ⟨Int.ediv_nonneg h0 (by omega), Int.ediv_le_self _ h0⟩
theorem digK_zero {zs : List Int} {p : Int} : digK zs p zs.length = List.replicate zs.length 0 := by
  apply ext_nth (by rw [digK_len, List.length_replicate])
  intro k hk
  rw [digK_len] at hk
  rw [nth_digK hk, if_neg (by omega)]
  simp [nth, hk]
end Go.Proofs.YtppcfpiihkaopaaGreatDoor

namespace Go.Proofs.YtppcfpiihkaopaaGreatDoor

open Go.RowKit

set_option linter.unusedVariables false

theorem num1 {n : Int} (h1 : -9223372036854775808 ≤ n) (h2 : n ≤ 9223372036854775807) : ∀ k, k < [n].length → -9223372036854775808 ≤ nth [n] k ∧ nth [n] k ≤ 9223372036854775807 := by
  intro k hk
  simp at hk
  subst hk; exact ⟨h1, h2⟩

theorem scalar_any (n : Int) (w : World) (h1 : -9223372036854775808 ≤ n) (h2 : n ≤ 9223372036854775807) :
    Calls Tryz.prog 48 #[.int .i64 n] w fun e w' => ∃ ao c, e = .returned (.agg #[.slice none 0 0, .slice ao 1 c]) ∧ Ft 2 w' w.heap.size ao 1 c [n] ∧ Below w.heap.size w w' := by
  go_enter Tryz.func48, Tryz.ntmps48
  go_wp2
  go_returns
  refine ⟨_, _, rfl, ?_, ?_⟩
  · have := ft_new 2 (w.alloc (.cells #[.slice none 0 0, .slice (some ⟨w.heap.size + 1, 0, none⟩) 1 1] 36)) [n] (by simp) (num1 h1 h2)
    rw [World.size_alloc] at this
    exact this.mono (by omega)
  · exact (box_below w _).alloc (by simp) _

set_option maxHeartbeats 1000000 in
theorem list_any (ao : Option Addr) (n cap : Nat) (zs : List Int) (w : World) (h : Rd w ao n zs) (hs : Sl ao n cap) (hn : n ≤ 4096) :
    Calls Tryz.prog 49 #[.slice ao n cap] w fun e w' => ∃ so sc bo bc, e = .returned (.tuple #[.agg #[.slice so 1 sc, .slice bo n bc], .int .i64 0]) ∧ Ft 3 w' w.heap.size so 1 sc [(n : Int)] ∧ Ft 2 w' w.heap.size bo n bc zs ∧ apart so bo ∧ Below w.heap.size w w' := by
  have k0 := box_below w (.cells #[.slice none 0 0, .slice none 0 0] 36)
  have k1 := box_below (w.alloc (.cells #[.slice none 0 0, .slice none 0 0] 36)) (.cells #[.int .i64 (n : Nat)] 3)
  have f1 := ft_new 3 (w.alloc (.cells #[.slice none 0 0, .slice none 0 0] 36)) [(n : Int)] (by simp) (num1 (by omega) (by omega))
  have h' := (h.below k0 (Nat.le_refl _)).below k1 (Nat.le_refl _)
  have hc := clone8_any ao n cap zs _ h' hs
  have b0 := (k1.block w.heap.size (by simp)).trans (allocNew w (.cells #[.slice none 0 0, .slice none 0 0] 36))
  go_enter Tryz.func49, Tryz.ntmps49
  go_wp2_with (go_at_call 66; refine hc.mono ?_; rintro e w2 ⟨bo, bc, rfl, hf, hb⟩; obtain ⟨c0, c1, z0, z1⟩ := box2 ((hb.block w.heap.size (by simp; omega)).trans b0))
  (try simp only [Exit.inBlock, Exit.then])
  refine bodyPost_ret (v := .tuple #[.agg #[.slice (some ⟨w.heap.size + 1, 0, none⟩) 1 1, .slice bo n bc], .int .i64 0]) (by rw [results_cell_tmp rfl]; go_simp) rfl ?_
  have hs1 : w.heap.size + 1 + 1 ≤ w2.heap.size := by have := hb.size; simpa using this
  rw [World.size_alloc] at f1
  have f2 : Ft 3 w2 (w.heap.size + 1) (some ⟨w.heap.size + 1, 0, none⟩) 1 1 [(n : Int)] := f1.below hb (Nat.le_refl _)
  have hat := hf.at
  simp only [World.size_alloc] at hat
  refine ⟨_, _, _, _, rfl, (f2.keep1 (set2 _ _ _ _ _ _) (fun b off e => ?_)).mono (by omega), (hf.keep1 (set2 _ _ _ _ _ _) (fun b off e => ?_)).mono (by simp; omega), ?_, below_set2 _ _ _ _ (k0.trans ((k1.trans (hb.mono k1.size)).mono k0.size)) (Nat.le_refl _) (Nat.le_refl _)⟩
  · intro e'; cases e; simp at e'
  · intro e'; have := (hat b off e).1; cases e'; omega
  · rintro ⟨p, o, sp⟩ ⟨q, o', sp'⟩ e1 e2
    rcases hf.own.2 with ⟨e3, _⟩ | ⟨g, c, cur, e3, hB2, _⟩
    · cases e3; cases e2
    · cases e3; cases e1; cases e2; simp at hB2 ⊢; omega

theorem list_long (ao : Option Addr) (n cap : Nat) (w : World) (hn : 4096 < n) (hm : n ≤ 9223372036854775807) :
    Calls Tryz.prog 49 #[.slice ao n cap] w fun e w' => e = .returned (.tuple #[.agg #[.slice none 0 0, .slice none 0 0], .int .i64 17]) ∧ Below w.heap.size w w' := by
  go_enter Tryz.func49, Tryz.ntmps49
  go_wp2
  go_returns
  exact ⟨rfl, box_below w _⟩
end Go.Proofs.YtppcfpiihkaopaaGreatDoor

namespace Go.Proofs.YtppcfpiihkaopaaGreatDoor

open Go.RowKit

set_option linter.unusedVariables false

theorem Rd.lt {w : World} {ao : Option Addr} {n : Nat} {zs : List Int} (h : Rd w ao n zs) (h0 : 0 < n) : ∀ b off, ao = some ⟨b, off, none⟩ → b < w.heap.size := by
  rintro b off rfl
  obtain ⟨b', off', e, hb, _⟩ := h.cells h0
  cases e; exact hb

end Go.Proofs.YtppcfpiihkaopaaGreatDoor

namespace Go.Proofs.YtppcfpiihkaopaaGreatDoor

open Go.RowKit

set_option linter.unusedVariables false

/-! ### math/bits.Mul64: the product of two words, by its halves -/

theorem ones (v : Int) (q : Nat) : ∀ u ∈ List.replicate q (Value.int .i64 v), u.oneCell' = true := by
  intro u hu
  rw [(List.mem_replicate.1 hu).2]; rfl
end Go.Proofs.YtppcfpiihkaopaaGreatDoor
