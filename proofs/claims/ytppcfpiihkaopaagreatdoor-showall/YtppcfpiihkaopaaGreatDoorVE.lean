
/- Contracts: isBare, Flat. -/

import Derived.Test.YtppcfpiihkaopaaGreatDoorVD

import Derived.Test.YtppcfpiihkaopaaGreatDoorA2

import Derived.Test.YtppcfpiihkaopaaGreatDoorThere1

import Derived.Test.YtppcfpiihkaopaaGreatDoorL2

namespace Go.Proofs.YtppcfpiihkaopaaGreatDoor

open Go.RowKit

set_option linter.unusedVariables false

def bareb (S A : List Int) : Bool := decide (bareB S A)
theorem bareb_yes {S A : List Int} (h : bareB S A) : bareb S A = true := decide_eq_true h
theorem bareb_no {S A : List Int} (h : ¬ bareB S A) : bareb S A = false := decide_eq_false h
theorem bare_no0 {S A : List Int} (h0 : S.length ≠ 0) (h1 : S.length ≠ 1 ∨ A.length ≤ 1) : ¬ bareB S A := by
  rintro (h | ⟨h, h'⟩)
  · exact h0 h
  · rcases h1 with h1 | h1 <;> omega
set_option maxHeartbeats 1000000 in
theorem isBare_any (so ao : Option Addr) (sn sc an ac : Nat) (S A : List Int) (w : World) (h : Rd w so sn S) (g : Rd w ao an A) :
    Calls Tryz.prog 21 #[.agg #[.slice so sn sc, .slice ao an ac]] w fun e w' => e = .returned (.bool (bareb S A)) ∧ Below w.heap.size w w' := by
  have HS : Hid (S.length = sn) := h.len
  have HA : Hid (A.length = an) := g.len
  have k0 := box_below w (.cells #[.slice so sn sc, .slice ao an ac] 36)
  obtain ⟨y0, y1, _, _⟩ := box2 (allocNew w (.cells #[.slice so sn sc, .slice ao an ac] 36))
  by_cases h0 : sn = 0
  · have t0 : ((sn : Int) == 0) = true := by simp [h0]
    have t0' : (sn == 0) = true := by simp [h0]
    have HB : Hid (bareb S A = true) := bareb_yes (.inl (by rw [HS.out]; exact h0))
    subst h0
    clear h g
    go_enter Tryz.func21, Tryz.ntmps21
    go_wp2
    go_ret
    exact ⟨by rw [HB.out]; rfl, k0⟩
  · have t0 : ((sn : Int) == 0) = false := by simp [h0]
    have t0' : (sn == 0) = false := by simp [h0]
    by_cases h1 : sn = 1
    · subst h1
      by_cases h2 : 1 < an
      · have t2 : (1 : Int) < (an : Int) := by omega
        have HB : Hid (bareb S A = true) := bareb_yes (.inr ⟨HS.out, by rw [HA.out]; exact h2⟩)
        clear h g h0
        go_enter Tryz.func21, Tryz.ntmps21
        go_wp2
        go_ret
        exact ⟨by rw [HB.out]; rfl, k0⟩
      · have t2 : ¬ (1 : Int) < (an : Int) := by omega
        have t3 : decide (1 < an) = false := by simp; omega
        have HB : Hid (bareb S A = false) := bareb_no (bare_no0 (by rw [HS.out]; decide) (.inr (by rw [HA.out]; omega)))
        clear h g h0
        go_enter Tryz.func21, Tryz.ntmps21
        go_wp2
        go_ret
        exact ⟨by rw [HB.out]; rfl, k0⟩
    · have t1 : ((sn : Int) == 1) = false := by simp; omega
      have t1' : (sn == 1) = false := by simp [h1]
      have HB : Hid (bareb S A = false) := bareb_no (bare_no0 (by rw [HS.out]; exact h0) (.inl (by rw [HS.out]; exact h1)))
      clear h g h0
      go_enter Tryz.func21, Tryz.ntmps21
      go_wp2
      go_ret
      exact ⟨by rw [HB.out]; rfl, k0⟩

theorem ret_pair {v : Value} {l : List UInt8} {e : Int} (h : v = .tuple #[.string ⟨l.toArray⟩, .int .i64 e]) : Ending.returned v = .returned (.tuple #[.string ⟨l.toArray⟩, .int .i64 e]) := by rw [h]
set_option maxHeartbeats 1000000 in
theorem flat_no (so ao : Option Addr) (sn sc an ac : Nat) (S A : List Int) (w : World) (h : Rd w so sn S) (g : Rd w ao an A) (my : mayA S A ≠ 0) :
    Calls Tryz.prog 9 #[.agg #[.slice so sn sc, .slice ao an ac]] w fun e w' => e = .returned (.tuple #[.string ⟨#[]⟩, .int .i64 1]) ∧ Below w.heap.size w w' := by
  have k0 := box_below w (.cells #[.slice so sn sc, .slice ao an ac] 36)
  obtain ⟨y0, y1, _, _⟩ := box2 (allocNew w (.cells #[.slice so sn sc, .slice ao an ac] 36))
  have cM := mayA_any so ao sn sc an ac S A _ (h.below k0 (Nat.le_refl _)) (g.below k0 (Nat.le_refl _))
  have t : (mayA S A != 0) = true := by simpa using my
  clear my
  go_enter Tryz.func9, Tryz.ntmps9
  go_wp2_with (go_at_call 18; (with_reducible refine cM.mono ?_); rintro e w1 ⟨rfl, k1⟩; have K1 := k0.trans (k1.mono k0.size))
  go_ret2
  exact ⟨rfl, K1⟩
set_option maxHeartbeats 2000000 in
theorem flat_ok (so ao : Option Addr) (sn sc an ac : Nat) (S A : List Int) (w : World) (h : Rd w so sn S) (g : Rd w ao an A) (my : mayA S A = 0) (T : Tb w) :
    Calls Tryz.prog 9 #[.agg #[.slice so sn sc, .slice ao an ac]] w fun e w' => e = .returned (.tuple #[.string ⟨(fl S A).toArray⟩, .int .i64 0]) ∧ Below w.heap.size w w' := by
  have k0 := box_below w (.cells #[.slice so sn sc, .slice ao an ac] 36)
  have z0 := allocNew w (.cells #[.slice so sn sc, .slice ao an ac] 36)
  obtain ⟨y0, y1, _, _⟩ := box2 z0
  have cM := mayA_any so ao sn sc an ac S A _ (h.below k0 (Nat.le_refl _)) (g.below k0 (Nat.le_refl _))
  obtain ⟨m1, m2⟩ := mayA_zero my
  have s8 : sn ≤ 4096 := by have := (mayF_zero m1).2.1; rw [h.len] at this; omega
  have a4 : an ≤ 4096 := by have := pr_le m1; rw [g.len] at m2; omega
  have hS := inL_len S (in64_of h)
  have hA := inL_len A (in64_of g)
  have HS : Hid (S.length = sn) := h.len
  have HA : Hid (A.length = an) := g.len
  rw [h.len] at hS
  rw [g.len] at hA
  rw [my] at cM
  have BX : ∀ V, Below w.heap.size w V → Rd V so sn S ∧ Rd V ao an A ∧ Tb V := fun V k => ⟨h.below k (Nat.le_refl _), g.below k (Nat.le_refl _), T.below k⟩
  clear my m1 m2
  by_cases hb : bareB S A
  · have HF : Hid (fl S A = inL A) := if_pos hb
    have tb : bareb S A = true := bareb_yes hb
    clear hb
    go_enter Tryz.func9, Tryz.ntmps9
    go_wp2_with (first
      | (go_at_call 18; (with_reducible refine cM.mono ?_); rintro e w1 ⟨rfl, k1⟩; have K1 := k0.trans (k1.mono k0.size); have z1 := (k1.block w.heap.size (by simp)).trans z0; obtain ⟨v0, v1, _, _⟩ := box2 z1; have cB := isBare_any so ao sn sc an ac S A w1 (BX w1 K1).1 (BX w1 K1).2.1; rw [tb] at cB)
      | (go_at_call 21; (with_reducible refine cB.mono ?_); rintro e w2 ⟨rfl, k2⟩; have K2 := K1.trans (k2.mono K1.size); have z2 := (k2.block w.heap.size (Array.getElem?_eq_some_iff.1 z1).1).trans z1; obtain ⟨u0, u1, _, _⟩ := box2 z2; have cL := inLine64_any ao an ac A w2 (BX w2 K2).2.1 a4 (BX w2 K2).2.2)
      | (go_at_call 19; (with_reducible refine cL.mono ?_); rintro e w3 ⟨rfl, k3⟩; have K3 := K2.trans (k3.mono K2.size)))
    go_ret2
    exact ⟨ret_pair (by rw [HF.out]; rfl), K3⟩
  · have HF : Hid (fl S A = inL S ++ 32 :: 36 :: sp A) := if_neg hb
    have tb : bareb S A = false := bareb_no hb
    clear hb
    by_cases ha : an = 0
    · have t1 : ¬ (0 : Int) < (an : Int) := by omega
      have t1' : ¬ 0 < an := by omega
      have hA0 : A = [] := List.length_eq_zero_iff.1 (by rw [HA.out]; exact ha)
      have HF2 : Hid (fl S A = inL S ++ [32, 36]) := by show _ = _; rw [HF.out, hA0]; rfl
      have tl : ¬ 9223372036854775807 < (inL S).length + 2 := by omega
      subst ha
      clear HF hA0
      go_enter Tryz.func9, Tryz.ntmps9
      go_wp2_with (first
        | (go_at_call 18; (with_reducible refine cM.mono ?_); rintro e w1 ⟨rfl, k1⟩; have K1 := k0.trans (k1.mono k0.size); have z1 := (k1.block w.heap.size (by simp)).trans z0; obtain ⟨v0, v1, _, _⟩ := box2 z1; have cB := isBare_any so ao sn sc 0 ac S A w1 (BX w1 K1).1 (BX w1 K1).2.1; rw [tb] at cB)
        | (go_at_call 21; (with_reducible refine cB.mono ?_); rintro e w2 ⟨rfl, k2⟩; have K2 := K1.trans (k2.mono K1.size); have z2 := (k2.block w.heap.size (Array.getElem?_eq_some_iff.1 z1).1).trans z1; obtain ⟨u0, u1, _, _⟩ := box2 z2; have cL := inLineI_any so sn sc S w2 (BX w2 K2).1 s8 (BX w2 K2).2.2)
        | (go_at_call 22; (with_reducible refine cL.mono ?_); rintro e w3 ⟨rfl, k3⟩; have K3 := K2.trans (k3.mono K2.size); have z3 := (k3.block w.heap.size (Array.getElem?_eq_some_iff.1 z2).1).trans z2; obtain ⟨q0, q1, _, _⟩ := box2 z3))
      go_ret2
      exact ⟨ret_pair (by rw [HF2.out, ← bs_app]; rfl), K3⟩
    · have t1 : (0 : Int) < (an : Int) := by omega
      have t1' : 0 < an := by omega
      have HF2 : Hid (fl S A = (inL S ++ [32, 36]) ++ ([32] ++ inL A)) := by
        show _ = _
        rw [HF.out, ← blank_inL (a := A) (fun e => ha (by rw [← HA.out, e]; rfl))]
        simp
      have tl : ¬ 9223372036854775807 < (inL S).length + 2 := by omega
      have tl2 : ¬ 9223372036854775807 < 1 + (inL A).length := by omega
      have tl3 : ¬ 9223372036854775807 < (inL S).length + 2 + (1 + (inL A).length) := by omega
      clear HF ha
      go_enter Tryz.func9, Tryz.ntmps9
      go_wp2_with (first
        | (go_at_call 18; (with_reducible refine cM.mono ?_); rintro e w1 ⟨rfl, k1⟩; have K1 := k0.trans (k1.mono k0.size); have z1 := (k1.block w.heap.size (by simp)).trans z0; obtain ⟨v0, v1, _, _⟩ := box2 z1; have cB := isBare_any so ao sn sc an ac S A w1 (BX w1 K1).1 (BX w1 K1).2.1; rw [tb] at cB)
        | (go_at_call 21; (with_reducible refine cB.mono ?_); rintro e w2 ⟨rfl, k2⟩; have K2 := K1.trans (k2.mono K1.size); have z2 := (k2.block w.heap.size (Array.getElem?_eq_some_iff.1 z1).1).trans z1; obtain ⟨u0, u1, _, _⟩ := box2 z2; have cL := inLineI_any so sn sc S w2 (BX w2 K2).1 s8 (BX w2 K2).2.2)
        | (go_at_call 22; (with_reducible refine cL.mono ?_); rintro e w3 ⟨rfl, k3⟩; have K3 := K2.trans (k3.mono K2.size); have z3 := (k3.block w.heap.size (Array.getElem?_eq_some_iff.1 z2).1).trans z2; obtain ⟨q0, q1, _, _⟩ := box2 z3; have cN := inLine64_any ao an ac A w3 (BX w3 K3).2.1 a4 (BX w3 K3).2.2)
        | (go_at_call 19; (with_reducible refine cN.mono ?_); rintro e w4 ⟨rfl, k4⟩; have K4 := K3.trans (k4.mono K3.size)))
      go_ret2
      exact ⟨ret_pair (by rw [HF2.out, ← bs_app (inL S ++ [32, 36]), ← bs_app, ← bs_app]; rfl), K4⟩
end Go.Proofs.YtppcfpiihkaopaaGreatDoor
