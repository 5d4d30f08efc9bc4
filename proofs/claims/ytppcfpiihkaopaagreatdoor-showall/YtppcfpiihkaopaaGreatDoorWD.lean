
/- Lines and columns by remainders. -/

import Derived.Test.YtppcfpiihkaopaaGreatDoorWC

namespace Go.Proofs.YtppcfpiihkaopaaGreatDoor

open Go.RowKit

set_option linter.unusedVariables false

theorem rem_mul {p a P : Int} (hP : 1 ≤ P) (ha : 1 ≤ a) : p % (a * P) = 0 ↔ (p % P = 0 ∧ p / P % a = 0) := by
  constructor
  · intro h
    obtain ⟨q, hq⟩ := Int.dvd_of_emod_eq_zero h
    have e : p = P * (a * q) := by rw [hq, Int.mul_comm a P, Int.mul_assoc]
    have h1 : p % P = 0 := by rw [e]; exact Int.mul_emod_right P (a * q)
    have h2 : p / P = a * q := by rw [e]; exact Int.mul_ediv_cancel_left _ (by omega)
    exact ⟨h1, by rw [h2]; exact Int.mul_emod_right a q⟩
  · rintro ⟨h1, h2⟩
    obtain ⟨q, hq⟩ := Int.dvd_of_emod_eq_zero h1
    have e : p / P = q := by rw [hq]; exact Int.mul_ediv_cancel_left _ (by omega)
    rw [e] at h2
    obtain ⟨r, hr⟩ := Int.dvd_of_emod_eq_zero h2
    rw [hq, hr]
    rw [show P * (a * r) = a * P * r from by rw [← Int.mul_assoc, Int.mul_comm P a]]
    exact Int.mul_emod_right (a * P) r
/-- The last digits are 0 just if the remainder is. -/
theorem rem_digs {S : List Int} {p : Int} (hp : allPos S) : ∀ d m, m + d = S.length → (p % pr (S.drop m) = 0 ↔ ∀ j, m ≤ j → j < S.length → nth (digs S p) j = 0)
  | 0, m, e => by
    obtain rfl : m = S.length := by omega
    rw [List.drop_length]
    have : pr ([] : List Int) = 1 := rfl
    rw [this]
    constructor
    · intro _ j h1 h2; omega
    · intro _; omega
  | d + 1, m, e => by
    have ih := rem_digs (p := p) hp d (m + 1) (by omega)
    rw [pr_drop (by omega), rem_mul (drop_pos' hp (m + 1) (by omega)) (hp m (by omega)), ih]
    constructor
    · rintro ⟨h1, h2⟩ j hj hl
      by_cases hm : j = m
      · subst hm
        rw [nth_digs hl]
        exact h2
      · exact h1 j (by omega) hl
    · intro h
      refine ⟨fun j hj hl => h j (by omega) hl, ?_⟩
      have := h m (Nat.le_refl _) (by omega)
      rw [nth_digs (by omega)] at this
      exact this
theorem trz_le (D : List Int) : trz D ≤ D.length := by
  unfold trz
  have := (List.takeWhile_prefix (p := (· == 0)) (l := D.reverse)).length_le
  rw [List.length_reverse] at this
  exact this
theorem trz_iff (D : List Int) (m : Nat) (hm : m ≤ D.length) : (∀ j, m ≤ j → j < D.length → nth D j = 0) ↔ D.length - m ≤ trz D := by
  constructor
  · intro h
    rcases Nat.lt_or_ge (trz D) (D.length - m) with c | c
    · exfalso
      have := trz_stop (D := D) (by omega)
      exact this (h _ (by omega) (by omega))
    · exact c
  · intro h j h1 h2
    have := trz_zero (D := D) (k := D.length - 1 - j) (by omega) (trz_le D)
    rw [show D.length - 1 - (D.length - 1 - j) = j from by omega] at this
    exact this
/-- How many axes begin anew at a place, by remainders. -/
theorem rem_trz {S : List Int} {i : Nat} (hm : mayF S = 0) (hi : (i : Int) < pr S) (m : Nat) (h : m ≤ S.length) : ((i : Int) % pr (S.drop m) = 0) ↔ S.length - m ≤ trz (digs S i) := by
  have hp := allPos_of hm (Int.natCast_nonneg i) hi
  rw [rem_digs hp (S.length - m) m (by omega)]
  have := trz_iff (digs S i) m (by rw [digs_len]; exact h)
  rw [digs_len] at this
  exact this
theorem col_rem {S : List Int} {i m sn : Nat} (hl : S.length = sn) (h1 : 1 ≤ sn) (hmm : nth S (sn - 1) = (m : Int)) : colN S i = i % m := by
  unfold colN
  rw [hl, nth_digs (by omega)]
  unfold dg
  rw [List.drop_of_length_le (by omega), hmm]
  have : pr ([] : List Int) = 1 := rfl
  rw [this, Int.ediv_one]
  omega
theorem rem_col {S : List Int} {i m sn : Nat} (hm : mayF S = 0) (hi : (i : Int) < pr S) (hl : S.length = sn) (h1 : 1 ≤ sn) (hmm : nth S (sn - 1) = (m : Int)) : i % m = 0 ↔ 1 ≤ trz (digs S i) := by
  have h := rem_trz hm hi (sn - 1) (by omega)
  rw [pr_drop (by omega), List.drop_of_length_le (by omega), hmm] at h
  have e : pr ([] : List Int) = 1 := rfl
  rw [e, Int.mul_one, hl, show sn - (sn - 1) = 1 from by omega] at h
  rw [← h]
  omega
theorem nl_snoc (t d : Nat) : List.replicate (min t (d + 1)) (10 : UInt8) = if d + 1 ≤ t then List.replicate (min t d) 10 ++ [10] else List.replicate (min t d) 10 := by
  split
  · next h => rw [Nat.min_eq_right h, Nat.min_eq_right (by omega), List.replicate_succ']
  · next h => rw [Nat.min_eq_left (by omega), Nat.min_eq_left (by omega)]
end Go.Proofs.YtppcfpiihkaopaaGreatDoor
