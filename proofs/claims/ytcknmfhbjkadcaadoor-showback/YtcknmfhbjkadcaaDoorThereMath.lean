
/- Places and indices are there and back, of plain lists. -/

import Derived.Test.YtcknmfhbjkadcaaDoorMath2

namespace Go.Proofs.YtcknmfhbjkadcaaDoor

set_option linter.unusedVariables false

theorem plc_digs {zs : List Int} {p : Int} (hp : allPos zs) (h0 : 0 ≤ p) (hlt : p < pr zs) : ∀ m, m ≤ zs.length → plc zs (digs zs p) m = p / pr (zs.drop m)
  | 0, _ => by simp only [plc, List.drop_zero]; rw [Int.ediv_eq_zero_of_lt h0 hlt]
  | m + 1, hm => by
    simp only [plc]
    rw [plc_digs hp h0 hlt m (by omega), nth_digs (by omega), quo_step (m := m) (by omega) hp]
    unfold dg
    have := Int.mul_ediv_add_emod (p / pr (zs.drop (m + 1))) (nth zs m)
    rw [Int.mul_comm] at this
    exact this
theorem idx_digs {zs : List Int} {p : Int} (hp : allPos zs) : idx zs (digs zs p) zs.length := fun j hj => by
  rw [nth_digs hj]; exact dg_bd hj hp

/-- A place's indices lead to it. -/
theorem place_digs {zs : List Int} {p : Int} (h : mayF zs = 0) (h0 : 0 ≤ p) (hlt : p < pr zs) : placeE zs (digs zs p) = 0 ∧ placeN zs (digs zs p) = p := by
  have hp := allPos_of h h0 hlt
  obtain ⟨e1, e2⟩ := place_in h (digs_len zs p) (idx_digs hp)
  refine ⟨e1, ?_⟩
  rw [e2, plc_digs hp h0 hlt _ (Nat.le_refl _), List.drop_length]
  simp [pr]

theorem plc_quo {zs ys : List Int} (hp : allPos zs) (hi : idx zs ys zs.length) : ∀ d m, m + d = zs.length → plc zs ys zs.length / pr (zs.drop m) = plc zs ys m
  | 0, m, e => by
    obtain rfl : m = zs.length := by omega
    rw [List.drop_length]; simp [pr]
  | d + 1, m, e => by
    rw [quo_step (m := m) (by omega) hp, plc_quo hp hi d (m + 1) (by omega)]
    simp only [plc]
    have h1 := hi m (by omega)
    have h2 := hp m (by omega)
    rw [Int.add_comm, Int.add_mul_ediv_right _ _ (by omega), Int.ediv_eq_zero_of_lt h1.1 h1.2, Int.zero_add]

/-- Indices that lead to a place are its own. -/
theorem digs_place {zs ys : List Int} (hp : allPos zs) (hl : ys.length = zs.length) (hi : idx zs ys zs.length) : digs zs (plc zs ys zs.length) = ys := by
  refine ext_nth (by rw [digs_len, hl]) fun k hk => ?_
  rw [digs_len] at hk
  rw [nth_digs hk]
  unfold dg
  rw [plc_quo hp hi (zs.length - (k + 1)) (k + 1) (by omega)]
  simp only [plc]
  have h1 := hi k hk
  rw [Int.add_comm, Int.add_mul_emod_self_right, Int.emod_eq_of_lt h1.1 h1.2]

/-- Indices rise in row order. -/
theorem rise {zs ys0 bs : List Int} (hz : ∀ j, j < zs.length → 0 ≤ nth zs j) : ∀ m, m ≤ zs.length → idx zs ys0 m → idx zs bs m → plc zs ys0 m < plc zs bs m → ∃ k, k < m ∧ (∀ j, j < k → nth ys0 j = nth bs j) ∧ nth ys0 k < nth bs k
  | 0, _, _, _, h => by simp [plc] at h
  | m + 1, hm, ha, hb, h => by
    have hz' := hz m (by omega)
    have a1 := ha m (by omega)
    have b1 := hb m (by omega)
    by_cases c : plc zs ys0 m < plc zs bs m
    · obtain ⟨k, h1, h2, h3⟩ := rise hz m (by omega) (fun j hj => ha j (by omega)) (fun j hj => hb j (by omega)) c
      exact ⟨k, by omega, h2, h3⟩
    · have c2 : plc zs bs m ≤ plc zs ys0 m := by omega
      by_cases e : plc zs bs m = plc zs ys0 m
      · refine ⟨m, by omega, ?_, ?_⟩
        · intro j hj
          by_cases ee : nth ys0 j = nth bs j
          · exact ee
          · exact absurd e.symm (plc_ne hz m (by omega) (fun j hj => ha j (by omega)) (fun j hj => hb j (by omega)) ⟨j, hj, ee⟩)
        · simp only [plc] at h; rw [e] at h; omega
      · have h2 : plc zs bs m + 1 ≤ plc zs ys0 m := by omega
        have h3 := Int.mul_le_mul_of_nonneg_right h2 hz'
        rw [Int.add_mul] at h3
        simp only [plc] at h
        omega
where
  plc_ne {zs ys0 bs : List Int} (hz : ∀ j, j < zs.length → 0 ≤ nth zs j) : ∀ m, m ≤ zs.length → idx zs ys0 m → idx zs bs m → (∃ j, j < m ∧ nth ys0 j ≠ nth bs j) → plc zs ys0 m ≠ plc zs bs m
    | 0, _, _, _, ⟨j, hj, _⟩ => by omega
    | m + 1, hm, ha, hb, ⟨j, hj, hne⟩ => by
      have hz' := hz m (by omega)
      have a1 := ha m (by omega)
      have b1 := hb m (by omega)
      intro e
      simp only [plc] at e
      by_cases c : plc zs ys0 m = plc zs bs m
      · by_cases ej : j = m
        · subst ej; rw [c] at e; omega
        · exact plc_ne hz m (by omega) (fun j hj => ha j (by omega)) (fun j hj => hb j (by omega)) ⟨j, by omega, hne⟩ c
      · by_cases c2 : plc zs ys0 m < plc zs bs m
        · have h3 := Int.mul_le_mul_of_nonneg_right (show plc zs ys0 m + 1 ≤ plc zs bs m by omega) hz'
          rw [Int.add_mul] at h3; omega
        · have h3 := Int.mul_le_mul_of_nonneg_right (show plc zs bs m + 1 ≤ plc zs ys0 m by omega) hz'
          rw [Int.add_mul] at h3; omega

theorem rise_digs {zs : List Int} {p : Int} (h : mayF zs = 0) (h0 : 0 ≤ p) (hlt : p + 1 < pr zs) : ∃ k, k < zs.length ∧ (∀ j, j < k → nth (digs zs p) j = nth (digs zs (p + 1)) j) ∧ nth (digs zs p) k < nth (digs zs (p + 1)) k := by
  have hp := allPos_of h h0 (by omega : p < pr zs)
  refine rise (mayF_zero h).1 zs.length (Nat.le_refl _) (idx_digs hp) (idx_digs hp) ?_
  rw [plc_digs hp h0 (by omega) _ (Nat.le_refl _), plc_digs hp (by omega) hlt _ (Nat.le_refl _), List.drop_length]
  simp [pr]; omega

/-- A place that was told has its indices. -/
theorem back {zs ys : List Int} (h : mayF zs = 0) (hE : placeE zs ys = 0) : 0 ≤ placeN zs ys ∧ placeN zs ys < pr zs ∧ digs zs (placeN zs ys) = ys := by
  by_cases hl : ys.length = zs.length
  · by_cases hi : idx zs ys zs.length
    · have e := (place_in h hl hi).2
      have bd := plc_bd (zs := zs) (ys := ys) zs.length (Nat.le_refl _) hi
      rw [List.take_length] at bd
      rw [e]
      exact ⟨bd.1, by omega, digs_place (allPos_of h bd.1 (by omega)) hl hi⟩
    · have : placeE zs ys = 13 := by unfold placeE; rw [if_neg (by omega), if_neg (by omega), if_neg hi]
      omega
  · have := (place_rank h hl).1; omega
end Go.Proofs.YtcknmfhbjkadcaaDoor
