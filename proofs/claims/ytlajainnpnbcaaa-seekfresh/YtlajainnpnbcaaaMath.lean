
/- The document's words on places and indices, of plain lists. -/

import Derived.Test.YtlajainnpnbcaaaBase

namespace Go.Proofs.Ytlajainnpnbcaaa

set_option linter.unusedVariables false

theorem pr_bd {zs : List Int} (hz : ∀ k, k < zs.length → 0 ≤ nth zs k) : ∀ m, m ≤ zs.length → 0 ≤ pr (zs.take m) ∧ pr (zs.take m) ≤ pz (zs.take m)
  | 0, _ => by simp [pr, pz]
  | m + 1, hm => by
    have ih := pr_bd hz m (by omega)
    have hp := pz_pos (l := zs) m (by omega) (fun k hk => hz k (by omega))
    rw [take_nth (by omega), pr_snoc, pz_snoc]
    have h := hz m (by omega)
    split
    · rename_i e; rw [e]; simp; omega
    · exact ⟨Int.mul_nonneg ih.1 h, Int.mul_le_mul_of_nonneg_right ih.2 h⟩

theorem pr_small {zs : List Int} (h0 : mayF zs = 0) (m : Nat) (hm : m ≤ zs.length) : 0 ≤ pr (zs.take m) ∧ pr (zs.take m) ≤ 4096 := by
  obtain ⟨hz, _, hp⟩ := mayF_zero h0
  have h1 := pr_bd hz m hm
  have h2 := pz_up (l := zs) (i := m) zs.length hm (Nat.le_refl _) hz
  rw [List.take_length] at h2
  omega

theorem nth_small {zs : List Int} (h0 : mayF zs = 0) {k : Nat} (hk : k < zs.length) : 0 ≤ nth zs k ∧ nth zs k ≤ 4096 := by
  obtain ⟨hz, _, hp⟩ := mayF_zero h0
  have h1 := hz k hk
  refine ⟨h1, ?_⟩
  by_cases e : nth zs k = 0
  · omega
  · have h2 := pz_up (l := zs) (i := k + 1) zs.length hk (Nat.le_refl _) hz
    have h3 := pz_pos (l := zs) k (by omega) (fun j hj => hz j (by omega))
    rw [List.take_length, take_nth hk, pz_snoc, if_neg e] at h2
    have := Int.mul_le_mul_of_nonneg_right h3 h1
    omega

/-- The answer of Size. -/
def sizeF (zs : List Int) : Int := if mayF zs = 0 then pr zs else 0
theorem sizeF_ok {zs : List Int} (h : mayF zs = 0) : sizeF zs = pr zs := if_pos h
theorem sizeF_no {zs : List Int} (h : mayF zs ≠ 0) : sizeF zs = 0 := if_neg h
theorem sizeF_bd (zs : List Int) : 0 ≤ sizeF zs ∧ sizeF zs ≤ 4096 := by
  unfold sizeF
  split
  · rename_i h; have := pr_small h zs.length (Nat.le_refl _); rwa [List.take_length] at this
  · omega

end Go.Proofs.Ytlajainnpnbcaaa
