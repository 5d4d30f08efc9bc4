
/- PrimIdentity: the numbers. -/

import Derived.Test.YtelcagfaflpolaaGreatPP

namespace Go.Proofs.YtelcagfaflpolaaGreat

open Go.RowKit

set_option linter.unusedVariables false

/-- What an op asks of the atoms. -/
def tf (op z : Int) : Int := if 8 ≤ op ∧ op ≤ 13 then z % 2 else if op = 14 ∨ op = 15 ∨ op = 21 then z % 9223372036854775808 else z
theorem inr_in {n : Int} (h1 : -9223372036854775808 ≤ n) (h2 : n ≤ 9223372036854775807) : Nm.inr n = true := Nm.inr_iff.2 ⟨h1, h2⟩
theorem binom_one : ∀ n, Nm.binom n 1 = n
  | 0 => rfl
  | n + 1 => by rw [Nm.binom_step, Nm.binom_zero, binom_one n]; omega
theorem idn_1 (z : Int) (h1 : -9223372036854775808 ≤ z) (h2 : z ≤ 9223372036854775807) : Nm.dE 1 0 (z) = 0 ∧ Nm.dN 1 0 (z) = z := by
    have e1 : ∀ x y, Nm.dE 1 x y = Nm.ovr (x + y) := fun x y => by simp [Nm.dE]
    have e2 : ∀ x y, Nm.dN 1 x y = Nm.cut (x + y) := fun x y => by simp [Nm.dN]
    have hi : Nm.inr z = true := inr_in h1 h2
    rw [e1, e2, Int.zero_add]; exact ⟨Nm.ovr_yes hi, Nm.cut_yes hi⟩
theorem idn_2 (z : Int) (h1 : -9223372036854775808 ≤ z) (h2 : z ≤ 9223372036854775807) : Nm.dE 2 (z) 0 = 0 ∧ Nm.dN 2 (z) 0 = z := by
    have e1 : ∀ x y, Nm.dE 2 x y = Nm.ovr (x - y) := fun x y => by simp [Nm.dE]
    have e2 : ∀ x y, Nm.dN 2 x y = Nm.cut (x - y) := fun x y => by simp [Nm.dN]
    have hi : Nm.inr z = true := inr_in h1 h2
    rw [e1, e2, Int.sub_zero]; exact ⟨Nm.ovr_yes hi, Nm.cut_yes hi⟩
theorem idn_3 (z : Int) (h1 : -9223372036854775808 ≤ z) (h2 : z ≤ 9223372036854775807) : Nm.dE 3 1 (z) = 0 ∧ Nm.dN 3 1 (z) = z := by
    have e1 : ∀ x y, Nm.dE 3 x y = Nm.ovr (x * y) := fun x y => by simp [Nm.dE]
    have e2 : ∀ x y, Nm.dN 3 x y = Nm.cut (x * y) := fun x y => by simp [Nm.dN]
    have hi : Nm.inr z = true := inr_in h1 h2
    rw [e1, e2, Int.one_mul]; exact ⟨Nm.ovr_yes hi, Nm.cut_yes hi⟩
theorem idn_4 (z : Int) (h1 : -9223372036854775808 ≤ z) (h2 : z ≤ 9223372036854775807) : Nm.dE 4 (z) 1 = 0 ∧ Nm.dN 4 (z) 1 = z := by
    have e1 : ∀ x y, Nm.dE 4 x y = Nm.divE x y := fun x y => by simp [Nm.dE]
    have e2 : ∀ x y, Nm.dN 4 x y = Nm.divN x y := fun x y => by simp [Nm.dN]
    have hi : Nm.inr z = true := inr_in h1 h2
    rw [e1, e2]; unfold Nm.divE Nm.divN; rw [if_neg (by omega), if_neg (by omega), Int.fdiv_one]; exact ⟨Nm.ovr_yes hi, Nm.cut_yes hi⟩
theorem idn_5 (z : Int) (h1 : -9223372036854775808 ≤ z) (h2 : z ≤ 9223372036854775807) : Nm.dE 5 0 (z) = 0 ∧ Nm.dN 5 0 (z) = z := by
    have e1 : ∀ x y, Nm.dE 5 x y = 0 := fun x y => by simp [Nm.dE]
    have e2 : ∀ x y, Nm.dN 5 x y = y.fmod x := fun x y => by simp [Nm.dN]
    have hi : Nm.inr z = true := inr_in h1 h2
    rw [e1, e2, Int.fmod_zero]; exact ⟨rfl, rfl⟩
theorem idn_6 (z : Int) (h1 : -9223372036854775808 ≤ z) (h2 : z ≤ 9223372036854775807) : Nm.dE 6 9223372036854775807 (z) = 0 ∧ Nm.dN 6 9223372036854775807 (z) = z := by
    have e1 : ∀ x y, Nm.dE 6 x y = 0 := fun x y => by simp [Nm.dE]
    have e2 : ∀ x y, Nm.dN 6 x y = min x y := fun x y => by simp [Nm.dN]
    have hi : Nm.inr z = true := inr_in h1 h2
    rw [e1, e2]; exact ⟨rfl, by omega⟩
theorem idn_7 (z : Int) (h1 : -9223372036854775808 ≤ z) (h2 : z ≤ 9223372036854775807) : Nm.dE 7 (-9223372036854775808) (z) = 0 ∧ Nm.dN 7 (-9223372036854775808) (z) = z := by
    have e1 : ∀ x y, Nm.dE 7 x y = 0 := fun x y => by simp [Nm.dE]
    have e2 : ∀ x y, Nm.dN 7 x y = max x y := fun x y => by simp [Nm.dN]
    have hi : Nm.inr z = true := inr_in h1 h2
    rw [e1, e2]; exact ⟨rfl, by omega⟩
theorem idn_8 (z : Int) (h1 : -9223372036854775808 ≤ z) (h2 : z ≤ 9223372036854775807) : Nm.dE 8 0 (z % 2) = 0 ∧ Nm.dN 8 0 (z % 2) = z % 2 := by
    have e1 : ∀ x y, Nm.dE 8 x y = 0 := fun x y => by simp [Nm.dE]
    have e2 : ∀ x y, Nm.dN 8 x y = Nm.tr (decide (x < y)) := fun x y => by simp [Nm.dN]
    have bt : z % 2 = 0 ∨ z % 2 = 1 := by omega
    rw [e1, e2]; rcases bt with b | b <;> rw [b] <;> exact ⟨rfl, rfl⟩
theorem idn_9 (z : Int) (h1 : -9223372036854775808 ≤ z) (h2 : z ≤ 9223372036854775807) : Nm.dE 9 (z % 2) 0 = 0 ∧ Nm.dN 9 (z % 2) 0 = z % 2 := by
    have e1 : ∀ x y, Nm.dE 9 x y = 0 := fun x y => by simp [Nm.dE]
    have e2 : ∀ x y, Nm.dN 9 x y = Nm.tr (decide (y < x)) := fun x y => by simp [Nm.dN]
    have bt : z % 2 = 0 ∨ z % 2 = 1 := by omega
    rw [e1, e2]; rcases bt with b | b <;> rw [b] <;> exact ⟨rfl, rfl⟩
theorem idn_10 (z : Int) (h1 : -9223372036854775808 ≤ z) (h2 : z ≤ 9223372036854775807) : Nm.dE 10 1 (z % 2) = 0 ∧ Nm.dN 10 1 (z % 2) = z % 2 := by
    have e1 : ∀ x y, Nm.dE 10 x y = 0 := fun x y => by simp [Nm.dE]
    have e2 : ∀ x y, Nm.dN 10 x y = Nm.tr (x == y) := fun x y => by simp [Nm.dN]
    have bt : z % 2 = 0 ∨ z % 2 = 1 := by omega
    rw [e1, e2]; rcases bt with b | b <;> rw [b] <;> exact ⟨rfl, rfl⟩
theorem idn_11 (z : Int) (h1 : -9223372036854775808 ≤ z) (h2 : z ≤ 9223372036854775807) : Nm.dE 11 0 (z % 2) = 0 ∧ Nm.dN 11 0 (z % 2) = z % 2 := by
    have e1 : ∀ x y, Nm.dE 11 x y = 0 := fun x y => by simp [Nm.dE]
    have e2 : ∀ x y, Nm.dN 11 x y = Nm.tr (x != y) := fun x y => by simp [Nm.dN]
    have bt : z % 2 = 0 ∨ z % 2 = 1 := by omega
    rw [e1, e2]; rcases bt with b | b <;> rw [b] <;> exact ⟨rfl, rfl⟩
theorem idn_12 (z : Int) (h1 : -9223372036854775808 ≤ z) (h2 : z ≤ 9223372036854775807) : Nm.dE 12 1 (z % 2) = 0 ∧ Nm.dN 12 1 (z % 2) = z % 2 := by
    have e1 : ∀ x y, Nm.dE 12 x y = 0 := fun x y => by simp [Nm.dE]
    have e2 : ∀ x y, Nm.dN 12 x y = Nm.tr (decide (x ≤ y)) := fun x y => by simp [Nm.dN]
    have bt : z % 2 = 0 ∨ z % 2 = 1 := by omega
    rw [e1, e2]; rcases bt with b | b <;> rw [b] <;> exact ⟨rfl, rfl⟩
theorem idn_13 (z : Int) (h1 : -9223372036854775808 ≤ z) (h2 : z ≤ 9223372036854775807) : Nm.dE 13 (z % 2) 1 = 0 ∧ Nm.dN 13 (z % 2) 1 = z % 2 := by
    have e1 : ∀ x y, Nm.dE 13 x y = 0 := fun x y => by simp [Nm.dE]
    have e2 : ∀ x y, Nm.dN 13 x y = Nm.tr (decide (y ≤ x)) := fun x y => by simp [Nm.dN]
    have bt : z % 2 = 0 ∨ z % 2 = 1 := by omega
    rw [e1, e2]; rcases bt with b | b <;> rw [b] <;> exact ⟨rfl, rfl⟩
theorem idn_14 (z : Int) (h1 : -9223372036854775808 ≤ z) (h2 : z ≤ 9223372036854775807) : Nm.dE 14 0 (z % 9223372036854775808) = 0 ∧ Nm.dN 14 0 (z % 9223372036854775808) = z % 9223372036854775808 := by
    have e1 : ∀ x y, Nm.dE 14 x y = Nm.ovr ((Nat.gcd x.natAbs y.natAbs : Nat)) := fun x y => by simp [Nm.dE]
    have e2 : ∀ x y, Nm.dN 14 x y = Nm.cut ((Nat.gcd x.natAbs y.natAbs : Nat)) := fun x y => by simp [Nm.dN]
    have hi : Nm.inr (z % 9223372036854775808) = true := inr_in (by omega) (by omega)
    rw [e1, e2]; have q : ((Nat.gcd (0 : Int).natAbs (z % 9223372036854775808).natAbs : Nat) : Int) = z % 9223372036854775808 := by rw [show (0 : Int).natAbs = 0 from rfl, Nat.gcd_zero_left]; omega
    rw [q]; exact ⟨Nm.ovr_yes hi, Nm.cut_yes hi⟩
theorem idn_15 (z : Int) (h1 : -9223372036854775808 ≤ z) (h2 : z ≤ 9223372036854775807) : Nm.dE 15 1 (z % 9223372036854775808) = 0 ∧ Nm.dN 15 1 (z % 9223372036854775808) = z % 9223372036854775808 := by
    have e1 : ∀ x y, Nm.dE 15 x y = Nm.ovr ((Nat.lcm x.natAbs y.natAbs : Nat)) := fun x y => by simp [Nm.dE]
    have e2 : ∀ x y, Nm.dN 15 x y = Nm.cut ((Nat.lcm x.natAbs y.natAbs : Nat)) := fun x y => by simp [Nm.dN]
    have hi : Nm.inr (z % 9223372036854775808) = true := inr_in (by omega) (by omega)
    rw [e1, e2]; have q : ((Nat.lcm (1 : Int).natAbs (z % 9223372036854775808).natAbs : Nat) : Int) = z % 9223372036854775808 := by rw [show (1 : Int).natAbs = 1 from rfl, Nat.lcm_one_left]; omega
    rw [q]; exact ⟨Nm.ovr_yes hi, Nm.cut_yes hi⟩
theorem idn_20 (z : Int) (h1 : -9223372036854775808 ≤ z) (h2 : z ≤ 9223372036854775807) : Nm.dE 20 (z) 1 = 0 ∧ Nm.dN 20 (z) 1 = z := by
    have e1 : ∀ x y, Nm.dE 20 x y = Nm.powE x y := fun x y => by simp [Nm.dE]
    have e2 : ∀ x y, Nm.dN 20 x y = Nm.powN x y := fun x y => by simp [Nm.dN]
    have hi : Nm.inr z = true := inr_in h1 h2
    rw [e1, e2]; unfold Nm.powE Nm.powN; rw [if_pos (by omega), if_pos (by omega), show (1 : Int).toNat = 1 from rfl, Int.pow_succ, Int.pow_zero, Int.one_mul]; exact ⟨Nm.ovr_yes hi, Nm.cut_yes hi⟩
theorem idn_21 (z : Int) (h1 : -9223372036854775808 ≤ z) (h2 : z ≤ 9223372036854775807) : Nm.dE 21 1 (z % 9223372036854775808) = 0 ∧ Nm.dN 21 1 (z % 9223372036854775808) = z % 9223372036854775808 := by
    have e1 : ∀ x y, Nm.dE 21 x y = Nm.chooseE x y := fun x y => by simp [Nm.dE]
    have e2 : ∀ x y, Nm.dN 21 x y = Nm.chooseN x y := fun x y => by simp [Nm.dN]
    have hi : Nm.inr (z % 9223372036854775808) = true := inr_in (by omega) (by omega)
    rw [e1, e2]
    unfold Nm.chooseE Nm.chooseN
    rw [if_neg (show ¬ z % 9223372036854775808 < 0 by omega)]
    by_cases c : z % 9223372036854775808 = 0
    · rw [if_pos (show (1 : Int) < 0 ∨ z % 9223372036854775808 < 1 by omega), if_pos (show z % 9223372036854775808 < 0 ∨ (1 : Int) < 0 ∨ z % 9223372036854775808 < 1 by omega), c]; exact ⟨rfl, rfl⟩
    · rw [if_neg (show ¬ ((1 : Int) < 0 ∨ z % 9223372036854775808 < 1) by omega), if_neg (show ¬ (z % 9223372036854775808 < 0 ∨ (1 : Int) < 0 ∨ z % 9223372036854775808 < 1) by omega), show (1 : Int).toNat = 1 from rfl]
      have q : ((Nm.binom (z % 9223372036854775808).toNat 1 : Nat) : Int) = z % 9223372036854775808 := by rw [binom_one]; omega
      rw [q]; exact ⟨Nm.ovr_yes hi, Nm.cut_yes hi⟩

/-- Two arrays of one shape, of which one is all identities. -/
theorem dd_same (op : Int) (sh ax ay zs : List Int) (mx : mayA sh ax = 0) (my : mayA sh ay = 0) (hl : lck (Nm.dE op 0 0) = false) (lz : zs.length = ax.length) (h : ∀ j, j < ax.length → Nm.dE op (nth ax j) (nth ay j) = 0 ∧ Nm.dN op (nth ax j) (nth ay j) = nth zs j) :
    ddE op sh ax sh ay = 0 ∧ ddS op sh ax sh ay = sh ∧ ddA op sh ax sh ay = zs := by
  have eb : agrB sh sh = true := by unfold agrB; rw [if_neg (by omega), List.take_length]; simp [eqB]
  have el : agrL sh sh = sh := by unfold agrL; rw [if_pos eb, if_neg (by omega)]
  have pl := mayA_zero mx
  have en : dyN sh sh = ax.length := by
    unfold dyN
    rw [el]
    have := pl.2
    omega
  have ebb : dyB sh sh sh = 1 := by
    unfold dyB
    rw [el, List.drop_length]
    rfl
  have eE : ddE op sh ax sh ay = 0 := by
    unfold ddE
    rw [if_neg (by simp [mx, my]), if_neg (by rw [hl]; decide), if_pos eb]
    refine fe_none _ fun j hj => ?_
    unfold dyR at hj ⊢
    rw [List.length_map, List.length_range, en] at hj
    rw [nth_range (by rw [en]; exact hj)]
    unfold dyG
    rw [ebb, Nat.div_one]
    exact (h j hj).1
  refine ⟨eE, ?_, ?_⟩
  · unfold ddS; rw [eE, onOk_ok rfl, el]
  · unfold ddA
    rw [eE, onOk_ok rfl]
    unfold dyL
    refine ext_nth (by simp [en, lz]) fun j hj => ?_
    rw [List.length_map, List.length_range, en] at hj
    rw [nth_range (by rw [en]; exact hj)]
    unfold dyF
    rw [ebb, Nat.div_one]
    exact (h j hj).2
end Go.Proofs.YtelcagfaflpolaaGreat
