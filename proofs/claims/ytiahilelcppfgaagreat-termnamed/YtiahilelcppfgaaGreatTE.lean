
/- Package term: what is asked of a kid alone. -/

import Derived.Test.YtiahilelcppfgaaGreatTB

namespace Go.Proofs.YtiahilelcppfgaaGreat

open Go.RowKit

set_option linter.unusedVariables false

/-- What is asked of a kid: 1 a noun, 2 a verb, 3 a body, 4 a sentence of a body, 5 (or any other number) an operand. -/
def askB (p : Nat) (k : Int) (t : ByteArray) : Bool :=
  if p = 1 then decide (clsN k = 1) else if p = 2 then decide (clsN k = 3) else if p = 3 then decide (k = 14) else if p = 4 then decide (clsN k = 2) && !decide (k = 14)
  else decide (k = 1) || (decide (k = 2) && (!(t.toList == [120]) && !(t.toList == [121])))
/-- Is it a node that names x? -/
def spk (k : Int) (t : ByteArray) : Bool := (decide (k = 2) || decide (k = 11)) && (t.toList == [120])
set_option maxHeartbeats 1000000 in
theorem isNoun_any (k n : Int) (t : ByteArray) (so ao ko : Option Addr) (sn sc an ac kn kc : Nat) (w : World) :
    Calls Tryz.prog 87 #[.agg #[.int .i64 k, .string t, .int .i64 n, .slice so sn sc, .slice ao an ac, .slice ko kn kc]] w fun e w' => e = .returned (.bool (askB 1 k t)) ∧ Below w.heap.size w w' := by
  have k0 := box_below w (.cells #[.int .i64 k, .string t, .int .i64 n, .slice so sn sc, .slice ao an ac, .slice ko kn kc] 31)
  obtain ⟨b0, b1, b2, b3, b4, b5⟩ := box6 (allocNew w (.cells #[.int .i64 k, .string t, .int .i64 n, .slice so sn sc, .slice ao an ac, .slice ko kn kc] 31))
  have hc := fun W => class_any k n t (.slice so sn sc) (.slice ao an ac) (.slice ko kn kc) W
  have hA : Hid (askB 1 k t = decide (clsN k = 1)) := rfl
  generalize clsN k = C at *
  go_enter Tryz.func87, Tryz.ntmps87
  go_wp2_with (go_at_call 11; (with_reducible refine (hc _).mono ?_); rintro e w6 ⟨rfl, b6⟩)
  go_ret
  exact ⟨ret_bool (by rw [hA.out]; rfl), k0.trans (b6.mono k0.size)⟩
set_option maxHeartbeats 1000000 in
theorem isVerb_any (k n : Int) (t : ByteArray) (so ao ko : Option Addr) (sn sc an ac kn kc : Nat) (w : World) :
    Calls Tryz.prog 86 #[.agg #[.int .i64 k, .string t, .int .i64 n, .slice so sn sc, .slice ao an ac, .slice ko kn kc]] w fun e w' => e = .returned (.bool (askB 2 k t)) ∧ Below w.heap.size w w' := by
  have k0 := box_below w (.cells #[.int .i64 k, .string t, .int .i64 n, .slice so sn sc, .slice ao an ac, .slice ko kn kc] 31)
  obtain ⟨b0, b1, b2, b3, b4, b5⟩ := box6 (allocNew w (.cells #[.int .i64 k, .string t, .int .i64 n, .slice so sn sc, .slice ao an ac, .slice ko kn kc] 31))
  have hc := fun W => class_any k n t (.slice so sn sc) (.slice ao an ac) (.slice ko kn kc) W
  have hA : Hid (askB 2 k t = decide (clsN k = 3)) := rfl
  generalize clsN k = C at *
  go_enter Tryz.func86, Tryz.ntmps86
  go_wp2_with (go_at_call 11; (with_reducible refine (hc _).mono ?_); rintro e w6 ⟨rfl, b6⟩)
  go_ret
  exact ⟨ret_bool (by rw [hA.out]; rfl), k0.trans (b6.mono k0.size)⟩
set_option maxHeartbeats 1000000 in
theorem isBody_any (k n : Int) (t : ByteArray) (so ao ko : Option Addr) (sn sc an ac kn kc : Nat) (w : World) :
    Calls Tryz.prog 89 #[.agg #[.int .i64 k, .string t, .int .i64 n, .slice so sn sc, .slice ao an ac, .slice ko kn kc]] w fun e w' => e = .returned (.bool (askB 3 k t)) ∧ Below w.heap.size w w' := by
  have k0 := box_below w (.cells #[.int .i64 k, .string t, .int .i64 n, .slice so sn sc, .slice ao an ac, .slice ko kn kc] 31)
  obtain ⟨b0, b1, b2, b3, b4, b5⟩ := box6 (allocNew w (.cells #[.int .i64 k, .string t, .int .i64 n, .slice so sn sc, .slice ao an ac, .slice ko kn kc] 31))
  have hA : Hid (askB 3 k t = decide (k = 14)) := rfl
  go_enter Tryz.func89, Tryz.ntmps89
  go_wp2
  go_ret
  exact ⟨ret_bool (by rw [hA.out]; rfl), k0⟩
set_option maxHeartbeats 1000000 in
theorem isInBody_any (k n : Int) (t : ByteArray) (so ao ko : Option Addr) (sn sc an ac kn kc : Nat) (w : World) :
    Calls Tryz.prog 91 #[.agg #[.int .i64 k, .string t, .int .i64 n, .slice so sn sc, .slice ao an ac, .slice ko kn kc]] w fun e w' => e = .returned (.bool (askB 4 k t)) ∧ Below w.heap.size w w' := by
  have k0 := box_below w (.cells #[.int .i64 k, .string t, .int .i64 n, .slice so sn sc, .slice ao an ac, .slice ko kn kc] 31)
  obtain ⟨b0, b1, b2, b3, b4, b5⟩ := box6 (allocNew w (.cells #[.int .i64 k, .string t, .int .i64 n, .slice so sn sc, .slice ao an ac, .slice ko kn kc] 31))
  have hc := fun W => class_any k n t (.slice so sn sc) (.slice ao an ac) (.slice ko kn kc) W
  have hb := fun W => isBody_any k n t so ao ko sn sc an ac kn kc W
  have hA : askB 4 k t = (decide (clsN k = 2) && !decide (k = 14)) := rfl
  have hB : askB 3 k t = decide (k = 14) := rfl
  rw [hA]
  rw [hB] at hb
  clear hA hB
  generalize clsN k = C at *
  by_cases h2 : C = 2
  · have e2 : (C == 2) = true := by simp [h2]
    have d2 : decide (C = 2) = true := by simp [h2]
    rw [d2, Bool.true_and]
    clear h2 d2
    generalize decide (k = 14) = B at *
    go_enter Tryz.func91, Tryz.ntmps91
    go_wp2_with (first
      | (go_at_call 11; (with_reducible refine (hc _).mono ?_); rintro e w6 ⟨rfl, b6⟩; obtain ⟨q0, q1, q2, q3, q4, q5⟩ := box6 ((b6.block w.heap.size (by simp)).trans (allocNew w (.cells #[.int .i64 k, .string t, .int .i64 n, .slice so sn sc, .slice ao an ac, .slice ko kn kc] 31))))
      | (go_at_call 89; (with_reducible refine (hb _).mono ?_); rintro e w7 ⟨rfl, b7⟩))
    go_ret
    exact ⟨rfl, k0.trans ((b6.trans (b7.mono b6.size)).mono k0.size)⟩
  · have e2 : (C == 2) = false := by simp [h2]
    have d2 : decide (C = 2) = false := by simp [h2]
    rw [d2, Bool.false_and]
    clear h2 d2
    go_enter Tryz.func91, Tryz.ntmps91
    go_wp2_with (go_at_call 11; (with_reducible refine (hc _).mono ?_); rintro e w6 ⟨rfl, b6⟩)
    go_ret
    exact ⟨rfl, k0.trans (b6.mono k0.size)⟩
set_option maxHeartbeats 1000000 in
theorem isOperand_any (k n : Int) (t : ByteArray) (so ao ko : Option Addr) (sn sc an ac kn kc : Nat) (w : World) :
    Calls Tryz.prog 92 #[.agg #[.int .i64 k, .string t, .int .i64 n, .slice so sn sc, .slice ao an ac, .slice ko kn kc]] w fun e w' => e = .returned (.bool (askB 5 k t)) ∧ Below w.heap.size w w' := by
  have k0 := box_below w (.cells #[.int .i64 k, .string t, .int .i64 n, .slice so sn sc, .slice ao an ac, .slice ko kn kc] 31)
  obtain ⟨b0, b1, b2, b3, b4, b5⟩ := box6 (allocNew w (.cells #[.int .i64 k, .string t, .int .i64 n, .slice so sn sc, .slice ao an ac, .slice ko kn kc] 31))
  have hA : askB 5 k t = (decide (k = 1) || (decide (k = 2) && (!(t.toList == [120]) && !(t.toList == [121])))) := rfl
  by_cases h1 : k = 1
  · have e1 : (k == 1) = true := by simp [h1]
    have e2 : askB 5 k t = true := by rw [hA, h1]; rfl
    rw [e2]
    clear hA h1 e2
    go_enter Tryz.func92, Tryz.ntmps92
    go_wp2
    go_ret
    exact ⟨rfl, k0⟩
  have e1 : (k == 1) = false := by simp [h1]
  have d1 : decide (k = 1) = false := by simp [h1]
  rw [hA, d1, Bool.false_or]
  by_cases h2 : k = 2
  · have e2 : (k == 2) = true := by simp [h2]
    have d2 : decide (k = 2) = true := by simp [h2]
    rw [d2, Bool.true_and]
    clear hA h1 h2 d1 d2
    cases hx : t.toList == [120]
    · cases hy : t.toList == [121]
      · go_enter Tryz.func92, Tryz.ntmps92
        go_wp2
        go_ret
        exact ⟨rfl, k0⟩
      · go_enter Tryz.func92, Tryz.ntmps92
        go_wp2
        go_ret
        exact ⟨rfl, k0⟩
    · go_enter Tryz.func92, Tryz.ntmps92
      go_wp2
      go_ret
      exact ⟨rfl, k0⟩
  have e2 : (k == 2) = false := by simp [h2]
  have d2 : decide (k = 2) = false := by simp [h2]
  rw [d2, Bool.false_and]
  clear hA h1 h2 d1 d2
  go_enter Tryz.func92, Tryz.ntmps92
  go_wp2
  go_ret
  exact ⟨rfl, k0⟩
set_option maxHeartbeats 1000000 in
theorem speaksOfX_any (k n : Int) (t : ByteArray) (so ao ko : Option Addr) (sn sc an ac kn kc : Nat) (w : World) :
    Calls Tryz.prog 60 #[.agg #[.int .i64 k, .string t, .int .i64 n, .slice so sn sc, .slice ao an ac, .slice ko kn kc]] w fun e w' => e = .returned (.bool (spk k t)) ∧ Below w.heap.size w w' := by
  have k0 := box_below w (.cells #[.int .i64 k, .string t, .int .i64 n, .slice so sn sc, .slice ao an ac, .slice ko kn kc] 31)
  obtain ⟨b0, b1, b2, b3, b4, b5⟩ := box6 (allocNew w (.cells #[.int .i64 k, .string t, .int .i64 n, .slice so sn sc, .slice ao an ac, .slice ko kn kc] 31))
  have hA : spk k t = ((decide (k = 2) || decide (k = 11)) && (t.toList == [120])) := rfl
  rw [hA]
  clear hA
  by_cases h2 : k = 2
  · have e2 : (k == 2) = true := by simp [h2]
    have d2 : decide (k = 2) = true := by simp [h2]
    rw [d2, Bool.true_or, Bool.true_and]
    clear h2 d2
    go_enter Tryz.func60, Tryz.ntmps60
    go_wp2
    go_ret
    exact ⟨rfl, k0⟩
  have e2 : (k == 2) = false := by simp [h2]
  have d2 : decide (k = 2) = false := by simp [h2]
  rw [d2, Bool.false_or]
  by_cases h3 : k = 11
  · have e3 : (k == 11) = true := by simp [h3]
    have d3 : decide (k = 11) = true := by simp [h3]
    rw [d3, Bool.true_and]
    clear h2 d2 h3 d3
    go_enter Tryz.func60, Tryz.ntmps60
    go_wp2
    go_ret
    exact ⟨rfl, k0⟩
  have e3 : (k == 11) = false := by simp [h3]
  have d3 : decide (k = 11) = false := by simp [h3]
  rw [d3, Bool.false_and]
  clear h2 d2 h3 d3
  go_enter Tryz.func60, Tryz.ntmps60
  go_wp2
  go_ret
  exact ⟨rfl, k0⟩
end Go.Proofs.YtiahilelcppfgaaGreat
