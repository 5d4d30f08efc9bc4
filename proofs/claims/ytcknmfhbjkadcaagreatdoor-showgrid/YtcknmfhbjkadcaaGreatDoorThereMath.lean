
/- Places and indices are there and back, of plain lists. -/

import Derived.Test.YtcknmfhbjkadcaaGreatDoorMath2

namespace Go.Proofs.YtcknmfhbjkadcaaGreatDoor

set_option linter.unusedVariables false

theorem plc_digs {zs : List Int} {p : Int} (hp : allPos zs) (h0 : 0 ≤ p) (hlt : p < pr zs) : ∀ m, m ≤ zs.length → plc zs (digs zs p) m = p / pr (zs.drop m)
  | 0, _ => by simp only [plc, List.drop_zero]; rw [Int.ediv_eq_zero_of_lt h0 hlt]
  | m + 1, hm => by
    simp only [plc]
    rw [plc_digs hp h0 hlt m (by omega), nth_digs (by omega), quo_step (m := m) (by omega) hp]
    unfold dg
    have := Int.mul_ediv_add_emod (p / pr (zs.drop (m + 1))) (nth zs m)
    rw [Int.mul_comm] at this
    exact this
theorem idx_digs {zs : List Int} {p : Int} (hp : allPos zs) : idx zs (digs zs p) zs.length := fun j hj => by
  rw [nth_digs hj]; exact dg_bd hj hp

theorem plc_quo {zs ys : List Int} (hp : allPos zs) (hi : idx zs ys zs.length) : ∀ d m, m + d = zs.length → plc zs ys zs.length / pr (zs.drop m) = plc zs ys m
  | 0, m, e => by
    obtain rfl : m = zs.length := by omega
    rw [List.drop_length]; simp [pr]
  | d + 1, m, e => by
    rw [quo_step (m := m) (by omega) hp, plc_quo hp hi d (m + 1) (by omega)]
    simp only [plc]
    have h1 := hi m (by omega)
    have h2 := hp m (by omega)
    rw [Int.add_comm, Int.add_mul_ediv_right _ _ (by omega), Int.ediv_eq_zero_of_lt h1.1 h1.2, Int.zero_add]

/-- Indices that lead to a place are its own. -/
theorem digs_place {zs ys : List Int} (hp : allPos zs) (hl : ys.length = zs.length) (hi : idx zs ys zs.length) : digs zs (plc zs ys zs.length) = ys := by
  refine ext_nth (by rw [digs_len, hl]) fun k hk => ?_
  rw [digs_len] at hk
  rw [nth_digs hk]
  unfold dg
  rw [plc_quo hp hi (zs.length - (k + 1)) (k + 1) (by omega)]
  simp only [plc]
  have h1 := hi k hk
  rw [Int.add_comm, Int.add_mul_emod_self_right, Int.emod_eq_of_lt h1.1 h1.2]

/-- A place that was told has its indices. -/
theorem back {zs ys : List Int} (h : mayF zs = 0) (hE : placeE zs ys = 0) : 0 ≤ placeN zs ys ∧ placeN zs ys < pr zs ∧ digs zs (placeN zs ys) = ys := by
  by_cases hl : ys.length = zs.length
  · by_cases hi : idx zs ys zs.length
    · have e := (place_in h hl hi).2
      have bd := plc_bd (zs := zs) (ys := ys) zs.length (Nat.le_refl _) hi
      rw [List.take_length] at bd
      rw [e]
      exact ⟨bd.1, by omega, digs_place (allPos_of h bd.1 (by omega)) hl hi⟩
    · have : placeE zs ys = 13 := by unfold placeE; rw [if_neg (by omega), if_neg (by omega), if_neg hi]
      omega
  · have := (place_rank h hl).1; omega
end Go.Proofs.YtcknmfhbjkadcaaGreatDoor
