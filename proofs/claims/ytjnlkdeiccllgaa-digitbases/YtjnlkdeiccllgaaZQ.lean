
/- DigitBases: the numbers. -/

import Derived.Test.YtjnlkdeiccllgaaZP

namespace Go.Proofs.Ytjnlkdeiccllgaa

open Go.RowKit

set_option linter.unusedVariables false

theorem dvE_bad {r b : Int} (hr : Nm.inr r = true) (h : dvE r b ≠ 0) : b = -1 := by
  unfold dvE Nm.divE at h
  split at h
  · exact absurd rfl h
  · rename_i hb
    by_cases e : b = -1
    · exact e
    · exfalso
      have := Nm.fdiv_inr (Nm.inr_iff.1 hr) hb (fun hh => e hh.2)
      exact h (Nm.ovr_yes (Nm.inr_iff.2 this))
theorem dv_back {r b : Int} (hb : b ≠ 0) (h : dvE r b = 0) : dvQ r b * b + dvL r b = r := by
  unfold dvE Nm.divE at h
  unfold dvQ dvL Nm.divN
  rw [if_neg hb, if_neg hb] at h
  rw [if_neg hb, if_neg hb, if_neg hb]
  have hi : Nm.inr (r.fdiv b) = true := by
    cases e : Nm.inr (r.fdiv b)
    · rw [Nm.ovr_no e] at h; cases h
    · rfl
  rw [Nm.cut_yes hi]
  exact Int.fdiv_mul_add_fmod r b
theorem fb_back {bs ds : List Int} {r0 : Int} {n : Nat} (hb : bs.length = n) (hd : ∀ k, k < n → nth ds k = tbD bs r0 k) (h0 : nth bs 0 = 0) (hz : ∀ k, 1 ≤ k → k < n → nth bs k ≠ 0) (ho : ∀ k, k < n → tbO bs r0 k = 0) : ∀ k, 1 ≤ k → k ≤ n → ∀ v, fbR bs ds k = some v → v = tbV bs r0 k
  | 0, h1, _, _, _ => by omega
  | k + 1, _, hk, v, hv => by
    by_cases e : k = 0
    · subst e
      have h1 : fbR bs ds 0 = some 0 := rfl
      rw [fbR_succ h1] at hv
      split at hv
      · injection hv with hv
        rw [← hv, hd 0 (by omega), h0]
        unfold tbD dvL
        rw [if_pos h0]; omega
      · cases hv
    · cases hr : fbR bs ds k with
      | none => rw [fbR, hr] at hv; cases hv
      | some r =>
        have ih := fb_back hb hd h0 hz ho k (by omega) (by omega) r hr
        rw [fbR_succ hr] at hv
        split at hv
        · injection hv with hv
          rw [← hv, hd k (by omega), ih, tbV_at (by omega)]
          exact dv_back (hz k (by omega) (by omega)) (ho k (by omega))
        · cases hv
/-- What a digit is, by its base. -/
theorem dig_bd {r b : Int} : (0 < b → 0 ≤ dvL r b ∧ dvL r b < b) ∧ (b < 0 → dvL r b ≤ 0 ∧ b < dvL r b) := by
  unfold dvL
  refine ⟨fun h => ?_, fun h => ?_⟩
  · rw [if_neg (by omega)]; exact Nm.fmod_pos h
  · rw [if_neg (by omega)]; exact Nm.fmod_neg h
theorem nth_zero_cons (xs : List Int) (k : Nat) : nth (0 :: xs) (k + 1) = nth xs k := by unfold nth; simp
theorem map_nth {n k : Nat} (f : Nat → Int) (h : k < n) : nth ((List.range n).map f) k = f k := by unfold nth; simp [h]
theorem inr_tbD {bs : List Int} {r0 : Int} (h0 : Nm.inr r0 = true) (hb : ∀ k, k < bs.length → Nm.inr (nth bs k) = true) {k : Nat} (hk : k < bs.length) : Nm.inr (tbD bs r0 k) = true := inr_dvL (inr_tbV h0 _) (hb k hk)
theorem mayA_sc (z : Int) : mayA [] [z] = 0 := by simp [mayA, mayF, pr, pz]
/-- Is one of the first k the number -1? -/
def lst (xs : List Int) (k : Nat) : Bool := (xs.take k).any (fun z => z == -1)
theorem lst_succ {xs : List Int} {k : Nat} (h : k < xs.length) : lst xs (k + 1) = (lst xs k || (nth xs k == -1)) := by
  unfold lst; rw [take_nth h, List.any_append]; simp
theorem lst_yes {xs : List Int} {k n : Nat} (h : k < n) (hn : n ≤ xs.length) (e : nth xs k = -1) : lst xs n = true := by
  unfold lst
  rw [List.any_eq_true]
  refine ⟨nth xs k, ?_, by rw [e]; rfl⟩
  rw [← nth_take (zs := xs) h]
  exact nth_mem (by simp; omega)
end Go.Proofs.Ytjnlkdeiccllgaa
