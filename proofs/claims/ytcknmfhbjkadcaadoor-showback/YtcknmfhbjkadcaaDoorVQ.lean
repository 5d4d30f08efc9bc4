
/- What Read tells of a text, and of what Flat writes; no memory. -/

import Derived.Test.YtcknmfhbjkadcaaDoorVK

import Derived.Test.YtcknmfhbjkadcaaDoorVO

namespace Go.Proofs.YtcknmfhbjkadcaaDoor

open Go.RowKit

set_option linter.unusedVariables false

theorem sp_len : ∀ (zs : List Int), In64 zs → (sp zs).length ≤ 22 * zs.length := by
  intro zs
  induction zs with
  | nil => intro _; simp [sp]
  | cons n r ih =>
    intro h
    have h1 := wr_len n (h n (by simp)).1 (h n (by simp)).2
    have h2 := ih fun x hx => h x (by simp [hx])
    rw [sp_cons]; simp only [List.length_cons, List.length_append]; omega
theorem fl_len {S A : List Int} (hS : In64 S) (hA : In64 A) : (fl S A).length ≤ 22 * S.length + 22 * A.length + 2 := by
  unfold fl
  have h1 := inL_len S hS
  have h2 := inL_len A hA
  have h3 := sp_len A hA
  split
  · omega
  · simp only [List.length_append, List.length_cons]; omega
theorem pr_one (z : Int) : pr [z] = z := by simp [pr]
theorem mayA_mk {s a : List Int} (h1 : mayF s = 0) (h2 : (a.length : Int) = pr s) : mayA s a = 0 := by
  unfold mayA
  rw [if_neg (by simp [h1]), if_neg (by simp [h2])]
theorem mayF_one {n : Nat} (h : n ≤ 4096) : mayF [(n : Int)] = 0 := by
  refine mayF_ok (fun k hk => ?_) (by simp) ?_
  · have : k = 0 := by simpa using hk
    subst this
    show (0 : Int) ≤ (n : Int)
    omega
  · simp only [pz, List.foldl]
    split <;> omega
/-- What Flat writes is read back. -/
theorem rd_fl {S A : List Int} (hS : In64 S) (hA : In64 A) (hm : mayA S A = 0) : rdAll (fl S A) = (S, A, 0, 0) := by
  obtain ⟨m1, m2⟩ := mayA_zero hm
  have s8 := (mayF_zero m1).2.1
  have hp := pr_le m1
  have hl := fl_len hS hA
  unfold rdAll
  rw [if_neg (by omega), scn_fl hS hA (fun hb e => by
    rcases hb with h | ⟨h, h'⟩
    · rw [List.length_eq_zero_iff.1 h, e] at m2
      exact absurd m2 (by decide)
    · rw [e] at h'; simp at h')]
  by_cases hb : bareB S A
  · rw [if_pos hb]
    simp only [rdV]
    rw [if_pos trivial]
    rcases hb with h | ⟨h, h'⟩
    · have e := List.length_eq_zero_iff.1 h
      have ha : A.length = 1 := by rw [e] at m2; have : pr ([] : List Int) = 1 := rfl; omega
      rw [if_pos ha, e]
    · rw [if_neg (by omega), if_pos (by omega)]
      match S, h with
      | [z], _ => rw [pr_one] at m2; rw [m2]
  · rw [if_neg hb]
    simp only [rdV]
    rw [if_neg (by omega), if_neg (fun h => hb (.inl h)), if_neg (by simp [m1]), if_neg (by simp [m2]), if_neg hb]
/-- What is read is what Flat writes of it; else there is an error, at a place of the text. -/
def Sound (l : List UInt8) (v : List Int × List Int × Int × Int) : Prop := (v.2.2.2 = 0 ∧ v.2.2.1 = 0 ∧ fl v.1 v.2.1 = l ∧ mayA v.1 v.2.1 = 0) ∨ (v.2.2.2 ≠ 0 ∧ 0 ≤ v.2.2.1 ∧ v.2.2.1 ≤ l.length ∧ v.1 = [] ∧ v.2.1 = [])
theorem rd_sound (l : List UInt8) : Sound l (rdAll l) := by
  unfold rdAll
  split
  · exact .inr ⟨by decide, by decide, by simp, rfl, rfl⟩
  have G := scn_start l (l.length + 1)
  rcases hR : scn l (l.length + 1) 0 (-1) [] [] with ⟨p, e⟩ | ⟨D, L, N⟩
  ·
    rw [hR] at G
    exact .inr ⟨G.2.1, by simp [rdV], by simp [rdV]; exact G.1, rfl, rfl⟩
  ·
    rw [hR] at G
    obtain ⟨W, hw⟩ := G
    simp only [rdV]
    by_cases hD : D = -1
    · rw [if_pos hD]
      have e1 : 32 :: l = sp N := by have := hw; unfold spW at this; rw [if_pos hD] at this; exact this
      have hN0 : N ≠ [] := fun e => by rw [e] at e1; cases e1
      have hin : inL N = l := by unfold inL; rw [← e1]; rfl
      by_cases h1 : N.length = 1
      · rw [if_pos h1]
        refine .inl ⟨rfl, rfl, ?_, ?_⟩
        · show fl [] N = l
          unfold fl; rw [if_pos (.inl rfl), hin]
        · exact mayA_mk rfl (by rw [h1]; rfl)
      · rw [if_neg h1]
        have h2 : 1 < N.length := by
          cases N with
          | nil => exact absurd rfl hN0
          | cons x r => simp at h1 ⊢; exact List.length_pos_iff.2 h1
        by_cases h4 : N.length ≤ 4096
        · rw [if_pos h4]
          refine .inl ⟨rfl, rfl, ?_, ?_⟩
          · show fl [(N.length : Int)] N = l
            unfold fl; rw [if_pos (.inr ⟨rfl, h2⟩), hin]
          · exact mayA_mk (mayF_one h4) (by show (N.length : Int) = pr [(N.length : Int)]; rw [pr_one])
        · rw [if_neg h4]
          exact .inr ⟨by decide, by decide, by simp, rfl, rfl⟩
    · rw [if_neg hD]
      have e1 : 32 :: l = sp L ++ 32 :: 36 :: sp N := by have := hw; unfold spW at this; rw [if_neg hD] at this; exact this
      have hd := W.d0 hD
      have hlen : D + 2 ≤ l.length + 1 := by
        have := congrArg List.length e1
        simp only [List.length_cons, List.length_append] at this
        omega
      by_cases h0 : L.length = 0
      · rw [if_pos h0]
        exact .inr ⟨by show (37 : Int) ≠ 0; decide, by show (0 : Int) ≤ D; omega, by show D ≤ (l.length : Int); omega, rfl, rfl⟩
      · rw [if_neg h0]
        by_cases h1 : mayF L ≠ 0
        · rw [if_pos h1]
          exact .inr ⟨by decide, by decide, by simp, rfl, rfl⟩
        · rw [if_neg h1]
          by_cases h2 : (N.length : Int) ≠ pr L
          · rw [if_pos h2]
            exact .inr ⟨by show (11 : Int) ≠ 0; decide, by show (0 : Int) ≤ (l.length : Int); omega, Int.le_refl _, rfl, rfl⟩
          · rw [if_neg h2]
            by_cases h3 : bareB L N
            · rw [if_pos h3]
              exact .inr ⟨by show (37 : Int) ≠ 0; decide, by show (0 : Int) ≤ D; omega, by show D ≤ (l.length : Int); omega, rfl, rfl⟩
            · rw [if_neg h3]
              refine .inl ⟨rfl, rfl, ?_, ?_⟩
              · show fl L N = l
                unfold fl
                rw [if_neg h3]
                rw [← blank_inL (a := L) (fun e => h0 (by rw [e]; rfl))] at e1
                simpa using e1.symm
              · exact mayA_mk (by simpa using h1) (by simpa using h2)
end Go.Proofs.YtcknmfhbjkadcaaDoor
