
/- The document's letters: what is asked of a kid. -/

import Derived.Test.YtiahilelcppfgaaGreatSI

import Derived.Test.YtiahilelcppfgaaGreatTE

namespace Go.Proofs.YtiahilelcppfgaaGreat

open Go.RowKit

set_option linter.unusedVariables false

set_option maxHeartbeats 1000000 in
theorem roperand_any (k n : Int) (t : ByteArray) (so ao ko : Option Addr) (sn sc an ac kn kc : Nat) (w : World) :
    Calls Tryz.prog 123 #[.agg #[.int .i64 k, .string t, .int .i64 n, .slice so sn sc, .slice ao an ac, .slice ko kn kc]] w fun e w' => e = .returned (.bool (askB 5 k t)) ∧ Below w.heap.size w w' := by
  have k0 := box_below w (.cells #[.int .i64 k, .string t, .int .i64 n, .slice so sn sc, .slice ao an ac, .slice ko kn kc] 31)
  obtain ⟨b0, b1, b2, b3, b4, b5⟩ := box6 (allocNew w (.cells #[.int .i64 k, .string t, .int .i64 n, .slice so sn sc, .slice ao an ac, .slice ko kn kc] 31))
  have hA : askB 5 k t = (decide (k = 1) || (decide (k = 2) && (!(t.toList == [120]) && !(t.toList == [121])))) := rfl
  by_cases h1 : k = 1
  · have e1 : (k == 1) = true := by simp [h1]
    have e2 : askB 5 k t = true := by rw [hA, h1]; rfl
    rw [e2]
    clear hA h1 e2
    go_enter Tryz.func123, Tryz.ntmps123
    go_wp2
    go_ret
    exact ⟨rfl, k0⟩
  have e1 : (k == 1) = false := by simp [h1]
  have d1 : decide (k = 1) = false := by simp [h1]
  rw [hA, d1, Bool.false_or]
  by_cases h2 : k = 2
  · have e2 : (k == 2) = true := by simp [h2]
    have d2 : decide (k = 2) = true := by simp [h2]
    rw [d2, Bool.true_and]
    clear hA h1 h2 d1 d2
    cases hx : t.toList == [120]
    · cases hy : t.toList == [121]
      · go_enter Tryz.func123, Tryz.ntmps123
        go_wp2
        go_ret
        exact ⟨rfl, k0⟩
      · go_enter Tryz.func123, Tryz.ntmps123
        go_wp2
        go_ret
        exact ⟨rfl, k0⟩
    · go_enter Tryz.func123, Tryz.ntmps123
      go_wp2
      go_ret
      exact ⟨rfl, k0⟩
  have e2 : (k == 2) = false := by simp [h2]
  have d2 : decide (k = 2) = false := by simp [h2]
  rw [d2, Bool.false_and]
  clear hA h1 h2 d1 d2
  go_enter Tryz.func123, Tryz.ntmps123
  go_wp2
  go_ret
  exact ⟨rfl, k0⟩
/-- The letter that asks it. -/
def ltr (p : Nat) : Int := if p = 1 then 110 else if p = 2 then 118 else if p = 3 then 98 else if p = 4 then 115 else 111
set_option linter.unusedSimpArgs false in
set_option maxHeartbeats 1000000 in
theorem rfits_1 (k n : Int) (t : ByteArray) (so ao ko : Option Addr) (sn sc an ac kn kc : Nat) (w : World) :
    Calls Tryz.prog 107 #[.agg #[.int .i64 k, .string t, .int .i64 n, .slice so sn sc, .slice ao an ac, .slice ko kn kc], .int .u8 110] w fun e w' => e = .returned (.bool (askB 1 k t)) ∧ Below w.heap.size w w' := by
  have k0 := box_below w (.cells #[.int .i64 k, .string t, .int .i64 n, .slice so sn sc, .slice ao an ac, .slice ko kn kc] 31)
  obtain ⟨b0, b1, b2, b3, b4, b5⟩ := box6 (allocNew w (.cells #[.int .i64 k, .string t, .int .i64 n, .slice so sn sc, .slice ao an ac, .slice ko kn kc] 31))
  have hc := fun W => rclass_any k n t (.slice so sn sc) (.slice ao an ac) (.slice ko kn kc) W
  have hA : Hid (askB 1 k t = decide (clsN k = 1)) := rfl
  generalize clsN k = C at *
  go_enter Tryz.func107, Tryz.ntmps107
  go_wp2_with (go_at_call 29; (with_reducible refine (hc _).mono ?_); rintro e w6 ⟨rfl, b6⟩)
  go_ret
  exact ⟨ret_bool (by rw [hA.out]; rfl), k0.trans (b6.mono k0.size)⟩
set_option linter.unusedSimpArgs false in
set_option maxHeartbeats 1000000 in
theorem rfits_2 (k n : Int) (t : ByteArray) (so ao ko : Option Addr) (sn sc an ac kn kc : Nat) (w : World) :
    Calls Tryz.prog 107 #[.agg #[.int .i64 k, .string t, .int .i64 n, .slice so sn sc, .slice ao an ac, .slice ko kn kc], .int .u8 118] w fun e w' => e = .returned (.bool (askB 2 k t)) ∧ Below w.heap.size w w' := by
  have k0 := box_below w (.cells #[.int .i64 k, .string t, .int .i64 n, .slice so sn sc, .slice ao an ac, .slice ko kn kc] 31)
  obtain ⟨b0, b1, b2, b3, b4, b5⟩ := box6 (allocNew w (.cells #[.int .i64 k, .string t, .int .i64 n, .slice so sn sc, .slice ao an ac, .slice ko kn kc] 31))
  have hc := fun W => rclass_any k n t (.slice so sn sc) (.slice ao an ac) (.slice ko kn kc) W
  have hA : Hid (askB 2 k t = decide (clsN k = 3)) := rfl
  generalize clsN k = C at *
  go_enter Tryz.func107, Tryz.ntmps107
  go_wp2_with (go_at_call 29; (with_reducible refine (hc _).mono ?_); rintro e w6 ⟨rfl, b6⟩)
  go_ret
  exact ⟨ret_bool (by rw [hA.out]; rfl), k0.trans (b6.mono k0.size)⟩
set_option linter.unusedSimpArgs false in
set_option maxHeartbeats 1000000 in
theorem rfits_3 (k n : Int) (t : ByteArray) (so ao ko : Option Addr) (sn sc an ac kn kc : Nat) (w : World) :
    Calls Tryz.prog 107 #[.agg #[.int .i64 k, .string t, .int .i64 n, .slice so sn sc, .slice ao an ac, .slice ko kn kc], .int .u8 98] w fun e w' => e = .returned (.bool (askB 3 k t)) ∧ Below w.heap.size w w' := by
  have k0 := box_below w (.cells #[.int .i64 k, .string t, .int .i64 n, .slice so sn sc, .slice ao an ac, .slice ko kn kc] 31)
  obtain ⟨b0, b1, b2, b3, b4, b5⟩ := box6 (allocNew w (.cells #[.int .i64 k, .string t, .int .i64 n, .slice so sn sc, .slice ao an ac, .slice ko kn kc] 31))
  have hA : Hid (askB 3 k t = decide (k = 14)) := rfl
  go_enter Tryz.func107, Tryz.ntmps107
  go_wp2
  go_ret
  exact ⟨ret_bool (by rw [hA.out]; rfl), k0⟩
set_option linter.unusedSimpArgs false in
set_option maxHeartbeats 1000000 in
theorem rfits_5 (k n : Int) (t : ByteArray) (so ao ko : Option Addr) (sn sc an ac kn kc : Nat) (w : World) :
    Calls Tryz.prog 107 #[.agg #[.int .i64 k, .string t, .int .i64 n, .slice so sn sc, .slice ao an ac, .slice ko kn kc], .int .u8 111] w fun e w' => e = .returned (.bool (askB 5 k t)) ∧ Below w.heap.size w w' := by
  have k0 := box_below w (.cells #[.int .i64 k, .string t, .int .i64 n, .slice so sn sc, .slice ao an ac, .slice ko kn kc] 31)
  obtain ⟨b0, b1, b2, b3, b4, b5⟩ := box6 (allocNew w (.cells #[.int .i64 k, .string t, .int .i64 n, .slice so sn sc, .slice ao an ac, .slice ko kn kc] 31))
  have hc := fun W => roperand_any k n t so ao ko sn sc an ac kn kc W
  generalize askB 5 k t = Q at *
  go_enter Tryz.func107, Tryz.ntmps107
  go_wp2_with (go_at_call 123; (with_reducible refine (hc _).mono ?_); rintro e w6 ⟨rfl, b6⟩)
  go_ret
  exact ⟨rfl, k0.trans (b6.mono k0.size)⟩
set_option linter.unusedSimpArgs false in
set_option maxHeartbeats 1000000 in
theorem rfits_4 (k n : Int) (t : ByteArray) (so ao ko : Option Addr) (sn sc an ac kn kc : Nat) (w : World) :
    Calls Tryz.prog 107 #[.agg #[.int .i64 k, .string t, .int .i64 n, .slice so sn sc, .slice ao an ac, .slice ko kn kc], .int .u8 115] w fun e w' => e = .returned (.bool (askB 4 k t)) ∧ Below w.heap.size w w' := by
  have k0 := box_below w (.cells #[.int .i64 k, .string t, .int .i64 n, .slice so sn sc, .slice ao an ac, .slice ko kn kc] 31)
  obtain ⟨b0, b1, b2, b3, b4, b5⟩ := box6 (allocNew w (.cells #[.int .i64 k, .string t, .int .i64 n, .slice so sn sc, .slice ao an ac, .slice ko kn kc] 31))
  have hc := fun W => rclass_any k n t (.slice so sn sc) (.slice ao an ac) (.slice ko kn kc) W
  have hA : askB 4 k t = (decide (clsN k = 2) && !decide (k = 14)) := rfl
  rw [hA]
  clear hA
  have HK : Hid (decide (k = 14) = (k == 14)) := rfl
  generalize clsN k = C at *
  by_cases h2 : C = 2
  · have e2 : (C == 2) = true := by simp [h2]
    have d2 : decide (C = 2) = true := by simp [h2]
    rw [d2, Bool.true_and, HK.out]
    clear h2 d2
    go_enter Tryz.func107, Tryz.ntmps107
    go_wp2_with (go_at_call 29; (with_reducible refine (hc _).mono ?_); rintro e w6 ⟨rfl, b6⟩; obtain ⟨q0, q1, q2, q3, q4, q5⟩ := box6 ((b6.block w.heap.size (by simp)).trans (allocNew w (.cells #[.int .i64 k, .string t, .int .i64 n, .slice so sn sc, .slice ao an ac, .slice ko kn kc] 31))))
    go_ret
    exact ⟨rfl, k0.trans (b6.mono k0.size)⟩
  · have e2 : (C == 2) = false := by simp [h2]
    have d2 : decide (C = 2) = false := by simp [h2]
    rw [d2, Bool.false_and]
    clear h2 d2
    go_enter Tryz.func107, Tryz.ntmps107
    go_wp2_with (go_at_call 29; (with_reducible refine (hc _).mono ?_); rintro e w6 ⟨rfl, b6⟩)
    go_ret
    exact ⟨rfl, k0.trans (b6.mono k0.size)⟩
theorem rfits_any (p : Nat) (h1 : 1 ≤ p) (h5 : p ≤ 5) (k n : Int) (t : ByteArray) (so ao ko : Option Addr) (sn sc an ac kn kc : Nat) (w : World) :
    Calls Tryz.prog 107 #[.agg #[.int .i64 k, .string t, .int .i64 n, .slice so sn sc, .slice ao an ac, .slice ko kn kc], .int .u8 (ltr p)] w fun e w' => e = .returned (.bool (askB p k t)) ∧ Below w.heap.size w w' := by
  have hp : p = 1 ∨ p = 2 ∨ p = 3 ∨ p = 4 ∨ p = 5 := by omega
  rcases hp with rfl | rfl | rfl | rfl | rfl
  · exact rfits_1 k n t so ao ko sn sc an ac kn kc w
  · exact rfits_2 k n t so ao ko sn sc an ac kn kc w
  · exact rfits_3 k n t so ao ko sn sc an ac kn kc w
  · exact rfits_4 k n t so ao ko sn sc an ac kn kc w
  · exact rfits_5 k n t so ao ko sn sc an ac kn kc w
end Go.Proofs.YtiahilelcppfgaaGreat
