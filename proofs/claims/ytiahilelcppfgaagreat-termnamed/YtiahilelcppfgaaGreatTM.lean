
/- Package term: a node's text. -/

import Derived.Test.YtiahilelcppfgaaGreatTJ

import Derived.Test.YtiahilelcppfgaaGreatTL

namespace Go.Proofs.YtiahilelcppfgaaGreat

open Go.RowKit Go.Maps

set_option linter.unusedVariables false

def txB (k : Int) (t : ByteArray) : Bool :=
  if k = 2 ∨ k = 11 then nmB 97 t else if k = 21 then nmB 65 t else if k = 20 then isPr t else (t.toList == ([] : List UInt8))
def cloP (pm : Nat) : Value := .func (.func 76) #[] #[.pointer (some ⟨pm, 0, none⟩)]
set_option maxHeartbeats 4000000 in
theorem textFits_any (k n : Int) (t : ByteArray) (so ao ko : Option Addr) (sn sc an ac kn kc : Nat) (pm g m : Nat) (w : World) (ht : t.size ≤ 140737488355328) (h : Fm w pm g m) (hm : m < 1000000) :
    Calls Tryz.prog 56 #[.agg #[.int .i64 k, .string t, .int .i64 n, .slice so sn sc, .slice ao an ac, .slice ko kn kc], cloP pm] w fun e w' => e = .returned (.bool (txB k t)) ∧ Mw g w w' ∧ ∃ m', m' ≤ m + 1 ∧ Fm w' pm g m' := by
  have k0 := box_below w (.cells #[.int .i64 k, .string t, .int .i64 n, .slice so sn sc, .slice ao an ac, .slice ko kn kc] 31)
  obtain ⟨b0, b1, b2, b3, b4, b5⟩ := box6 (allocNew w (.cells #[.int .i64 k, .string t, .int .i64 n, .slice so sn sc, .slice ao an ac, .slice ko kn kc] 31))
  have h0 := h.below k0 (Nat.le_refl _)
  have hF := h
  have hA : txB k t = if k = 2 ∨ k = 11 then nmB 97 t else if k = 21 then nmB 65 t else if k = 20 then isPr t else (t.toList == ([] : List UInt8)) := rfl
  unfold cloP
  have hs := fun W => isName97_any t W ht
  have hc := fun W => isName65_any t W ht
  have hp := isPrim_any t ht pm g m _ h0 hm
  generalize nmB 97 t = S at *
  generalize nmB 65 t = K at *
  generalize isPr t = Q at *
  clear h
  by_cases g2 : k = 2
  · have e2 : (k == 2) = true := by simp [g2]
    rw [hA, if_pos (by simp [g2])]
    clear hA g2
    go_enter Tryz.func56, Tryz.ntmps56
    go_wp2_with (go_at_call 78; (with_reducible refine (hs _).mono ?_); rintro e w1 ⟨rfl, hw⟩; rw [hw]; clear hw w1)
    go_ret
    exact ⟨rfl, Mw.of_below k0 (Nat.le_refl _), m, by omega, hF.below k0 (Nat.le_refl _)⟩
  have e2 : (k == 2) = false := by simp [g2]
  by_cases g11 : k = 11
  · have e11 : (k == 11) = true := by simp [g11]
    rw [hA, if_pos (by simp [g11])]
    clear hA g11
    go_enter Tryz.func56, Tryz.ntmps56
    go_wp2_with (go_at_call 78; (with_reducible refine (hs _).mono ?_); rintro e w1 ⟨rfl, hw⟩; rw [hw]; clear hw w1)
    go_ret
    exact ⟨rfl, Mw.of_below k0 (Nat.le_refl _), m, by omega, hF.below k0 (Nat.le_refl _)⟩
  have e11 : (k == 11) = false := by simp [g11]
  rw [if_neg (by simp [g2, g11])] at hA
  by_cases g21 : k = 21
  · have e21 : (k == 21) = true := by simp [g21]
    rw [hA, if_pos g21]
    clear hA g21
    go_enter Tryz.func56, Tryz.ntmps56
    go_wp2_with (go_at_call 78; (with_reducible refine (hc _).mono ?_); rintro e w1 ⟨rfl, hw⟩; rw [hw]; clear hw w1)
    go_ret
    exact ⟨rfl, Mw.of_below k0 (Nat.le_refl _), m, by omega, hF.below k0 (Nat.le_refl _)⟩
  have e21 : (k == 21) = false := by simp [g21]
  rw [if_neg g21] at hA
  by_cases g20 : k = 20
  · have e20 : (k == 20) = true := by simp [g20]
    rw [hA, if_pos g20]
    clear hA g20
    go_enter Tryz.func56, Tryz.ntmps56
    go_wp2_with (go_at_call 76; (with_reducible refine hp.mono ?_); rintro e w1 ⟨rfl, m1, x1⟩)
    go_ret
    exact ⟨rfl, (Mw.of_below k0 (Nat.le_refl _)).trans m1, x1⟩
  have e20 : (k == 20) = false := by simp [g20]
  rw [if_neg g20] at hA
  rw [hA]
  clear hA g2 g11 g20 g21
  cases he : t.toList == ([] : List UInt8)
  · go_enter Tryz.func56, Tryz.ntmps56
    go_wp2
    go_ret
    exact ⟨rfl, Mw.of_below k0 (Nat.le_refl _), m, by omega, hF.below k0 (Nat.le_refl _)⟩
  · go_enter Tryz.func56, Tryz.ntmps56
    go_wp2
    go_ret
    exact ⟨rfl, Mw.of_below k0 (Nat.le_refl _), m, by omega, hF.below k0 (Nat.le_refl _)⟩
end Go.Proofs.YtiahilelcppfgaaGreat
