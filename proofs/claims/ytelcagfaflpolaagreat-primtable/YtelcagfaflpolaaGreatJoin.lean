
/- An append to a list of one's own, and what agrees with what. -/

import Derived.Test.YtelcagfaflpolaaGreatBegun
import Derived.Laws.AppendOwnNone


namespace Go.Proofs.YtelcagfaflpolaaGreat

open Go.RowKit

set_option linter.unusedVariables false

theorem agr_true {a b : List Int} (h : agrB a b = true) : (agrL a b).take a.length = a ∧ (agrL a b).take b.length = b ∧ (agrL a b).length = Nat.max a.length b.length := by
  have e : agrL a b = if b.length < a.length then a else b := by unfold agrL; rw [if_pos h]
  unfold agrB at h
  by_cases c : b.length < a.length
  · rw [if_pos c] at h e
    simp only [eqB, decide_eq_true_eq] at h
    rw [e]
    exact ⟨List.take_length, h.symm, (Nat.max_eq_left (by omega)).symm⟩
  · rw [if_neg c] at h e
    simp only [eqB, decide_eq_true_eq] at h
    rw [e]
    exact ⟨h.symm, List.take_length, (Nat.max_eq_right (by omega)).symm⟩
end Go.Proofs.YtelcagfaflpolaaGreat
