
/- Indices of a place, of plain lists. -/

import Derived.Test.YtdeglhifemmknaaMath

namespace Go.Proofs.Ytdeglhifemmknaa

set_option linter.unusedVariables false

theorem pr_foldl (l : List Int) : ∀ a : Int, l.foldl (fun p z => p * z) a = a * pr l := by
  induction l with
  | nil => intro a; simp [pr]
  | cons z l ih => intro a; simp only [pr, List.foldl_cons]; rw [ih, ih (1 * z), Int.one_mul, Int.mul_assoc]
theorem pr_cons (z : Int) (l : List Int) : pr (z :: l) = z * pr l := by
  show (z :: l).foldl (fun p z => p * z) 1 = _
  rw [List.foldl_cons, pr_foldl, Int.one_mul]
theorem pr_app (a b : List Int) : pr (a ++ b) = pr a * pr b := by
  show (a ++ b).foldl (fun p z => p * z) 1 = _
  rw [List.foldl_append, pr_foldl]; rfl
theorem drop_nth {zs : List Int} {k : Nat} (h : k < zs.length) : zs.drop k = nth zs k :: zs.drop (k + 1) := by
  rw [List.drop_eq_getElem_cons h, nth_lt h]
theorem pr_drop {zs : List Int} {k : Nat} (h : k < zs.length) : pr (zs.drop k) = nth zs k * pr (zs.drop (k + 1)) := by
  rw [drop_nth h, pr_cons]

/-- All lengths are at least 1. -/
def allPos (zs : List Int) : Prop := ∀ k, k < zs.length → 1 ≤ nth zs k
theorem drop_pos {zs : List Int} (h : allPos zs) : ∀ m k, m + k = zs.length → 1 ≤ pr (zs.drop k)
  | 0, k, e => by rw [List.drop_eq_nil_of_le (by omega)]; simp [pr]
  | m + 1, k, e => by
    have ih := drop_pos h m (k + 1) (by omega)
    have hz := h k (by omega)
    rw [pr_drop (by omega)]
    have := Int.mul_le_mul hz ih (by omega) (by omega)
    omega
theorem drop_pos' {zs : List Int} (h : allPos zs) (k : Nat) (hk : k ≤ zs.length) : 1 ≤ pr (zs.drop k) := drop_pos h (zs.length - k) k (by omega)

theorem allPos_of {zs : List Int} (h0 : mayF zs = 0) {p : Int} (hp : 0 ≤ p) (hlt : p < pr zs) : allPos zs := by
  intro k hk
  have := (mayF_zero h0).1 k hk
  by_cases e : nth zs k = 0
  · have h1 : pr zs = 0 := by
      have h2 := List.take_append_drop k zs
      rw [← h2, pr_app, pr_drop hk, e, Int.zero_mul, Int.mul_zero]
    omega
  · omega

/-- The k-th index of a place. -/
def dg (zs : List Int) (p : Int) (k : Nat) : Int := (p / pr (zs.drop (k + 1))) % nth zs k
/-- All indices of a place, those ahead of axis m left 0. -/
def digK (zs : List Int) (p : Int) (m : Nat) : List Int := (List.range zs.length).map fun i => if m ≤ i then dg zs p i else 0
def digs (zs : List Int) (p : Int) : List Int := digK zs p 0

theorem digK_len (zs : List Int) (p : Int) (m : Nat) : (digK zs p m).length = zs.length := by simp [digK]
theorem nth_digK {zs : List Int} {p : Int} {m k : Nat} (h : k < zs.length) : nth (digK zs p m) k = if m ≤ k then dg zs p k else 0 := by
  unfold digK nth; simp [h]
theorem digK_step {zs : List Int} {p : Int} {m : Nat} (h : m < zs.length) : digK zs p m = (digK zs p (m + 1)).set m (dg zs p m) := by
  apply ext_nth (by rw [List.length_set, digK_len, digK_len])
  intro k hk
  rw [digK_len] at hk
  by_cases e : k = m
  · subst e
    rw [nth_digK hk, if_pos (Nat.le_refl _)]
    simp [nth, digK_len, hk]
  · have : nth ((digK zs p (m + 1)).set m (dg zs p m)) k = nth (digK zs p (m + 1)) k := by
      simp [nth, Ne.symm e]
    rw [this, nth_digK hk, nth_digK hk]
    by_cases c : m ≤ k
    · rw [if_pos c, if_pos (by omega)]
    · rw [if_neg c, if_neg (by omega)]
theorem quo_step {zs : List Int} {p : Int} {m : Nat} (h : m < zs.length) (hp : allPos zs) : p / pr (zs.drop m) = p / pr (zs.drop (m + 1)) / nth zs m := by
  rw [pr_drop h, Int.mul_comm, Int.ediv_ediv_of_nonneg (by have := drop_pos' hp (m + 1) (by omega); omega)]
theorem dg_bd {zs : List Int} {p : Int} {m : Nat} (h : m < zs.length) (hp : allPos zs) : 0 ≤ dg zs p m ∧ dg zs p m < nth zs m := by
  have := hp m h
  exact ⟨Int.emod_nonneg _ (by omega), Int.emod_lt_of_pos _ (by omega)⟩
theorem quo_bd {zs : List Int} {p : Int} {m : Nat} (h : m ≤ zs.length) (hp : allPos zs) (h0 : 0 ≤ p) : 0 ≤ p / pr (zs.drop m) ∧ p / pr (zs.drop m) ≤ p := by
  have := drop_pos' hp m h
  exact ⟨Int.ediv_nonneg h0 (by omega), Int.ediv_le_self _ h0⟩
theorem digK_zero {zs : List Int} {p : Int} : digK zs p zs.length = List.replicate zs.length 0 := by
  apply ext_nth (by rw [digK_len, List.length_replicate])
  intro k hk
  rw [digK_len] at hk
  rw [nth_digK hk, if_neg (by omega)]
  simp [nth, hk]
end Go.Proofs.Ytdeglhifemmknaa
