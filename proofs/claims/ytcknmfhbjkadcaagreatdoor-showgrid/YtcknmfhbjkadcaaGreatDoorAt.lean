
/- Contracts of package shape's At, and of the document's own At. -/

import Derived.Test.YtcknmfhbjkadcaaGreatDoorIndices

namespace Go.Proofs.YtcknmfhbjkadcaaGreatDoor

open Go.RowKit Go.Deep

set_option linter.unusedVariables false

/-- The answers of At. -/
def atE (zs : List Int) (p : Int) : Int := if mayF zs ≠ 0 then mayF zs else if p < 0 ∨ pr zs ≤ p then 13 else 0
def atL (zs : List Int) (p : Int) : List Int := if atE zs p = 0 then digs zs p else []
theorem at_may {zs : List Int} {p : Int} (h : mayF zs ≠ 0) : atE zs p = mayF zs ∧ atL zs p = [] := by
  have e : atE zs p = mayF zs := if_pos h
  exact ⟨e, by unfold atL; rw [e, if_neg h]⟩
theorem at_out {zs : List Int} {p : Int} (h : mayF zs = 0) (hp : p < 0 ∨ pr zs ≤ p) : atE zs p = 13 ∧ atL zs p = [] := by
  have e : atE zs p = 13 := by unfold atE; rw [if_neg (by omega), if_pos hp]
  exact ⟨e, by unfold atL; rw [e, if_neg (by omega)]⟩
theorem at_in {zs : List Int} {p : Int} (h : mayF zs = 0) (h0 : 0 ≤ p) (hp : p < pr zs) : atE zs p = 0 ∧ atL zs p = digs zs p := by
  have e : atE zs p = 0 := by unfold atE; rw [if_neg (by omega), if_neg (by omega)]
  exact ⟨e, by unfold atL; rw [e, if_pos rfl]⟩

theorem pr_le {zs : List Int} (h : mayF zs = 0) : 0 ≤ pr zs ∧ pr zs ≤ 4096 := by
  have := pr_small h zs.length (Nat.le_refl _); rwa [List.take_length] at this

set_option maxHeartbeats 1000000 in
theorem at_any (ao : Option Addr) (n cap : Nat) (zs : List Int) (p : Int) (w : World) (h : Rd w ao n zs) (h1 : -9223372036854775808 ≤ p) (h2 : p ≤ 9223372036854775807) :
    Calls Tryz.prog 10 #[.slice ao n cap, .int .i64 p] w fun e w' => ∃ co k c, e = .returned (.tuple #[.slice co k c, .int .i64 (atE zs p)]) ∧ Fr w' w.heap.size co k c (atL zs p) ∧ Below w.heap.size w w' := by
  have hs := size_any ao n cap zs w h
  by_cases h0 : mayF zs = 0
  · have hb := pr_le h0
    rw [h0, sizeF_ok h0] at hs
    have H0 : Hid (mayF zs = 0) := h0
    clear h0
    by_cases hneg : p < 0
    · go_enter Tryz.func10, Tryz.ntmps10
      go_wp2_with (go_at_call 17; refine hs.mono ?_; rintro e w' ⟨rfl, rfl⟩)
      go_ret2
      have := at_out H0.out (.inl hneg)
      exact ⟨_, _, _, ret_lone rfl rfl rfl this.1.symm, by rw [this.2]; exact Fr.nil _ _, Below.refl _ _⟩
    · by_cases hbig : pr zs ≤ p
      · go_enter Tryz.func10, Tryz.ntmps10
        go_wp2_with (go_at_call 17; refine hs.mono ?_; rintro e w' ⟨rfl, rfl⟩)
        go_ret2
        have := at_out H0.out (.inr hbig)
        exact ⟨_, _, _, ret_lone rfl rfl rfl this.1.symm, by rw [this.2]; exact Fr.nil _ _, Below.refl _ _⟩
      · have hpos := allPos_of H0.out (p := p) (by omega) (by omega)
        have hi := fun W (hW : Rd W ao n zs) => indices_any ao n cap zs p W hW hpos (by omega) (by omega)
        go_enter Tryz.func10, Tryz.ntmps10
        go_wp2_with (first | (go_at_call 17; refine hs.mono ?_; rintro e w' ⟨rfl, rfl⟩) | (go_at_call 22; refine (hi _ (by assumption)).mono ?_; rintro e w2 ⟨co, c, rfl, hf, hbw⟩))
        go_ret2
        have := at_in H0.out (by omega : 0 ≤ p) (by omega)
        exact ⟨_, _, _, ret_lone rfl rfl rfl this.1.symm, by rw [this.2]; exact hf, hbw⟩
  · have h0' : (mayF zs != 0) = true := by simpa using h0
    have H0 : Hid (mayF zs ≠ 0) := h0
    clear h0
    go_enter Tryz.func10, Tryz.ntmps10
    go_wp2_with (go_at_call 17; refine hs.mono ?_; rintro e w' ⟨rfl, rfl⟩)
    go_ret2
    have := at_may (p := p) H0.out
    exact ⟨_, _, _, ret_lone rfl rfl rfl this.1.symm, by rw [this.2]; exact Fr.nil _ _, Below.refl _ _⟩

end Go.Proofs.YtcknmfhbjkadcaaGreatDoor
