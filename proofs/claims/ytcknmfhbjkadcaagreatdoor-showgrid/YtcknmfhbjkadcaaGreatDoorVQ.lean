
/- What Read tells of a text, and of what Flat writes; no memory. -/

import Derived.Test.YtcknmfhbjkadcaaGreatDoorVK

import Derived.Test.YtcknmfhbjkadcaaGreatDoorVO

namespace Go.Proofs.YtcknmfhbjkadcaaGreatDoor

open Go.RowKit

set_option linter.unusedVariables false

theorem sp_len : ∀ (zs : List Int), In64 zs → (sp zs).length ≤ 22 * zs.length := by
  intro zs
  induction zs with
  | nil => intro _; simp [sp]
  | cons n r ih =>
    intro h
    have h1 := wr_len n (h n (by simp)).1 (h n (by simp)).2
    have h2 := ih fun x hx => h x (by simp [hx])
    rw [sp_cons]; simp only [List.length_cons, List.length_append]; omega
theorem fl_len {S A : List Int} (hS : In64 S) (hA : In64 A) : (fl S A).length ≤ 22 * S.length + 22 * A.length + 2 := by
  unfold fl
  have h1 := inL_len S hS
  have h2 := inL_len A hA
  have h3 := sp_len A hA
  split
  · omega
  · simp only [List.length_append, List.length_cons]; omega
theorem pr_one (z : Int) : pr [z] = z := by simp [pr]
/-- What Flat writes is read back. -/
theorem rd_fl {S A : List Int} (hS : In64 S) (hA : In64 A) (hm : mayA S A = 0) : rdAll (fl S A) = (S, A, 0, 0) := by
  obtain ⟨m1, m2⟩ := mayA_zero hm
  have s8 := (mayF_zero m1).2.1
  have hp := pr_le m1
  have hl := fl_len hS hA
  unfold rdAll
  rw [if_neg (by omega), scn_fl hS hA (fun hb e => by
    rcases hb with h | ⟨h, h'⟩
    · rw [List.length_eq_zero_iff.1 h, e] at m2
      exact absurd m2 (by decide)
    · rw [e] at h'; simp at h')]
  by_cases hb : bareB S A
  · rw [if_pos hb]
    simp only [rdV]
    rw [if_pos trivial]
    rcases hb with h | ⟨h, h'⟩
    · have e := List.length_eq_zero_iff.1 h
      have ha : A.length = 1 := by rw [e] at m2; have : pr ([] : List Int) = 1 := rfl; omega
      rw [if_pos ha, e]
    · rw [if_neg (by omega), if_pos (by omega)]
      match S, h with
      | [z], _ => rw [pr_one] at m2; rw [m2]
  · rw [if_neg hb]
    simp only [rdV]
    rw [if_neg (by omega), if_neg (fun h => hb (.inl h)), if_neg (by simp [m1]), if_neg (by simp [m2]), if_neg hb]
end Go.Proofs.YtcknmfhbjkadcaaGreatDoor
