
/- SeekNub: the numbers. -/

import Derived.Test.YtlncjmeabonpfaaYZ
import Derived.Test.YtlncjmeabonpfaaYNc


namespace Go.Proofs.Ytlncjmeabonpfaa

open Go.RowKit

set_option linter.unusedVariables false

theorem flt_inv (p : Nat → Bool) : ∀ n k, k < (flt p n).length → ∃ v : Nat, v < n ∧ nth (flt p n) k = (v : Int) ∧ p v = true ∧ (flt p v).length = k
  | 0, k, h => by simp [flt] at h
  | n + 1, k, h => by
    rw [flt_succ] at h ⊢
    by_cases x : k < (flt p n).length
    · obtain ⟨v, a, b, c, d⟩ := flt_inv p n k x
      exact ⟨v, by omega, by rw [← b]; unfold nth; simp [List.getElem?_append, x], c, d⟩
    · by_cases hp : p n = true
      · rw [if_pos hp] at h ⊢
        have hk : k = (flt p n).length := by simp at h; omega
        subst hk
        exact ⟨n, by omega, by unfold nth; simp, hp, rfl⟩
      · rw [if_neg hp] at h
        simp at h
        omega
theorem nub_math (xs : Nat → List Int × List Int) (n : Nat) {i : Nat} (hi : i < n) : ∃ f P : Nat, f ≤ i ∧ nth (fsL xs n) i = (f : Int) ∧ P < (nwo (fsL xs n) n).length ∧ P ≤ (nwo (fsL xs n) i).length ∧ (P = (nwo (fsL xs n) i).length ↔ f = i) ∧
    ∀ k, k < (nwo (fsL xs n) n).length → ∃ v : Nat, v < n ∧ nth (nwo (fsL xs n) n) k = (v : Int) ∧ (xs i = xs v ↔ k = P) ∧ (v = f ↔ k = P) := by
  have F := fsq_is xs n (xs i)
  have hfi : fsq xs n (xs i) ≤ i := by
    rcases Nat.lt_or_ge i (fsq xs n (xs i)) with x | x
    · exact absurd rfl (F.no i x)
    · exact x
  have hfn : fsq xs n (xs i) < n := by omega
  have hy := F.yes hfn
  obtain ⟨f, hf⟩ : ∃ f, fsq xs n (xs i) = f := ⟨_, rfl⟩
  have e0 := fsL_nth (xs := xs) hi
  rw [hf] at hfi hfn hy e0
  obtain ⟨p, hp⟩ : ∃ p : Nat → Bool, (fun i : Nat => decide (nth (fsL xs n) i = (i : Int))) = p := ⟨_, rfl⟩
  have pe : ∀ k, nwo (fsL xs n) k = flt p k := fun k => by rw [← hp]; rfl
  have pv : ∀ v, v < n → p v = true → fsq xs n (xs v) = v := fun v hv h => by
    rw [← hp] at h
    have h := of_decide_eq_true h
    rw [fsL_nth hv] at h
    omega
  have pf : p f = true := by
    rw [← hp]
    refine decide_eq_true ?_
    rw [fsL_nth hfn, hy, hf]
  obtain ⟨a1, a2⟩ := flt_at p f pf n hfn
  refine ⟨f, (flt p f).length, hfi, e0, by rw [pe]; exact a1, ?_, ?_, fun k hk => ?_⟩
  · rw [pe]
    rcases Nat.lt_or_ge f i with x | x
    · exact Nat.le_of_lt (flt_at p f pf i x).1
    · rw [show f = i by omega]
      exact Nat.le_refl _
  · rw [pe]
    rcases Nat.lt_or_ge f i with x | x
    · have := (flt_at p f pf i x).1
      constructor
      · intro h; omega
      · intro h; omega
    · obtain rfl : f = i := by omega
      exact ⟨fun _ => rfl, fun _ => rfl⟩
  · rw [pe] at hk ⊢
    obtain ⟨v, hv, b1, b2, b3⟩ := flt_inv p n k hk
    have q : v = f ↔ k = (flt p f).length := by
      constructor
      · rintro rfl; exact b3.symm
      · rintro rfl
        rw [a2] at b1
        omega
    refine ⟨v, hv, b1, ?_, q⟩
    rw [← q]
    constructor
    · intro h
      have := pv v hv b2
      rw [← h, hf] at this
      exact this.symm
    · rintro rfl
      exact hy.symm
theorem mayF_two {m n : Nat} (hm : m ≤ 4096) (hn : n ≤ 4096) : mayF [(m : Int), (n : Int)] = if 4096 < m * n then 17 else 0 := by
  have e1 : pz [(m : Int)] = if (m : Int) = 0 then 1 else (m : Int) := by
    have := pz_snoc [] (m : Int)
    rw [List.nil_append, pz_nil, Int.one_mul] at this
    exact this
  have e2 : pz [(m : Int), (n : Int)] = if (n : Int) = 0 then pz [(m : Int)] else pz [(m : Int)] * (n : Int) := pz_snoc [(m : Int)] (n : Int)
  have e3 : (4096 < pz [(m : Int), (n : Int)]) ↔ 4096 < m * n := by
    rw [e2, e1]
    by_cases h1 : m = 0
    · subst h1
      simp
      split <;> omega
    · by_cases h2 : n = 0
      · subst h2
        simp [h1]
        omega
      · rw [if_neg (by omega), if_neg (by omega), ← Int.natCast_mul]
        omega
  have e4 : [(m : Int), (n : Int)].any (fun z => decide (z < 0)) = false := by simp
  unfold mayF
  rw [e4]
  by_cases h : 4096 < m * n
  · simp [h, e3]
  · simp [h, e3]
end Go.Proofs.Ytlncjmeabonpfaa
