
/- The document's words on places and indices, of plain lists. -/

import Derived.Test.YtdeglhifemmknaaBase

namespace Go.Proofs.Ytdeglhifemmknaa

set_option linter.unusedVariables false

theorem pr_bd {zs : List Int} (hz : ∀ k, k < zs.length → 0 ≤ nth zs k) : ∀ m, m ≤ zs.length → 0 ≤ pr (zs.take m) ∧ pr (zs.take m) ≤ pz (zs.take m)
  | 0, _ => by simp [pr, pz]
  | m + 1, hm => by
    have ih := pr_bd hz m (by omega)
    have hp := pz_pos (l := zs) m (by omega) (fun k hk => hz k (by omega))
    rw [take_nth (by omega), pr_snoc, pz_snoc]
    have h := hz m (by omega)
    split
    · rename_i e; rw [e]; simp; omega
    · exact ⟨Int.mul_nonneg ih.1 h, Int.mul_le_mul_of_nonneg_right ih.2 h⟩

theorem pr_small {zs : List Int} (h0 : mayF zs = 0) (m : Nat) (hm : m ≤ zs.length) : 0 ≤ pr (zs.take m) ∧ pr (zs.take m) ≤ 4096 := by
  obtain ⟨hz, _, hp⟩ := mayF_zero h0
  have h1 := pr_bd hz m hm
  have h2 := pz_up (l := zs) (i := m) zs.length hm (Nat.le_refl _) hz
  rw [List.take_length] at h2
  omega

/-- The answer of Size. -/
def sizeF (zs : List Int) : Int := if mayF zs = 0 then pr zs else 0
theorem sizeF_ok {zs : List Int} (h : mayF zs = 0) : sizeF zs = pr zs := if_pos h
theorem sizeF_no {zs : List Int} (h : mayF zs ≠ 0) : sizeF zs = 0 := if_neg h
theorem sizeF_bd (zs : List Int) : 0 ≤ sizeF zs ∧ sizeF zs ≤ 4096 := by
  unfold sizeF
  split
  · rename_i h; have := pr_small h zs.length (Nat.le_refl _); rwa [List.take_length] at this
  · omega

/-- The place with these indices, reckoned over the first m axes. -/
def plc (zs ys : List Int) : Nat → Int
  | 0 => 0
  | m + 1 => plc zs ys m * nth zs m + nth ys m

abbrev idx (zs ys : List Int) (m : Nat) : Prop := ∀ j, j < m → 0 ≤ nth ys j ∧ nth ys j < nth zs j

theorem plc_bd {zs ys : List Int} : ∀ m, m ≤ zs.length → idx zs ys m → 0 ≤ plc zs ys m ∧ plc zs ys m + 1 ≤ pr (zs.take m)
  | 0, _, _ => by simp [plc, pr]
  | m + 1, hm, h => by
    have ih := plc_bd m (by omega) (fun j hj => h j (by omega))
    have ⟨h1, h2⟩ := h m (by omega)
    rw [take_nth (by omega), pr_snoc]
    simp only [plc]
    have hx : 0 ≤ plc zs ys m * nth zs m := Int.mul_nonneg ih.1 (by omega)
    have hy : (plc zs ys m + 1) * nth zs m ≤ pr (zs.take m) * nth zs m := Int.mul_le_mul_of_nonneg_right ih.2 (by omega)
    rw [Int.add_mul] at hy
    omega

/-- The answers of Place: the number, and the error. -/
def placeE (zs ys : List Int) : Int := if mayF zs ≠ 0 then mayF zs else if ys.length ≠ zs.length then 12 else if idx zs ys zs.length then 0 else 13
def placeN (zs ys : List Int) : Int := if placeE zs ys = 0 then plc zs ys zs.length else 0

theorem place_may {zs ys : List Int} (h : mayF zs ≠ 0) : placeE zs ys = mayF zs ∧ placeN zs ys = 0 := by
  have e : placeE zs ys = mayF zs := if_pos h
  exact ⟨e, by unfold placeN; rw [e, if_neg h]⟩
theorem place_rank {zs ys : List Int} (h : mayF zs = 0) (hl : ys.length ≠ zs.length) : placeE zs ys = 12 ∧ placeN zs ys = 0 := by
  have e : placeE zs ys = 12 := by unfold placeE; rw [if_neg (by omega), if_pos hl]
  exact ⟨e, by unfold placeN; rw [e, if_neg (by omega)]⟩
theorem place_out {zs ys : List Int} {k : Nat} (h : mayF zs = 0) (hl : ys.length = zs.length) (hk : k < zs.length) (hi : ¬ (0 ≤ nth ys k ∧ nth ys k < nth zs k)) : placeE zs ys = 13 ∧ placeN zs ys = 0 := by
  have e : placeE zs ys = 13 := by unfold placeE; rw [if_neg (by omega), if_neg (by omega), if_neg (fun c => hi (c k hk))]
  exact ⟨e, by unfold placeN; rw [e, if_neg (by omega)]⟩
theorem place_in {zs ys : List Int} (h : mayF zs = 0) (hl : ys.length = zs.length) (hi : idx zs ys zs.length) : placeE zs ys = 0 ∧ placeN zs ys = plc zs ys zs.length := by
  have e : placeE zs ys = 0 := by unfold placeE; rw [if_neg (by omega), if_neg (by omega), if_pos hi]
  exact ⟨e, by unfold placeN; rw [e, if_pos rfl]⟩
end Go.Proofs.Ytdeglhifemmknaa
