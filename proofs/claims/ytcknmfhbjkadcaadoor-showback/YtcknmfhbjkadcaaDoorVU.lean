
/- ShowBack: the law itself. -/

import Derived.Test.YtcknmfhbjkadcaaDoorVR

namespace Go.Proofs.YtcknmfhbjkadcaaDoor

open Go.RowKit

set_option linter.unusedVariables false

/-- What Flat answers. -/
def flT (S A : List Int) : List UInt8 := if mayA S A = 0 then fl S A else []
def flE (S A : List Int) : Int := if mayA S A = 0 then 0 else 1
theorem flat_any (so ao : Option Addr) (sn sc an ac : Nat) (S A : List Int) (w : World) (h : Rd w so sn S) (g : Rd w ao an A) (T : Tb w) :
    Calls Tryd.prog 6 #[.agg #[.slice so sn sc, .slice ao an ac]] w fun e w' => e = .returned (.tuple #[.string ⟨(flT S A).toArray⟩, .int .i64 (flE S A)]) ∧ Below w.heap.size w w' := by
  by_cases hm : mayA S A = 0
  · rw [show flT S A = fl S A from if_pos hm, show flE S A = 0 from if_pos hm]
    exact flat_ok so ao sn sc an ac S A w h g hm T
  · rw [show flT S A = [] from if_neg hm, show flE S A = 1 from if_neg hm]
    exact flat_no so ao sn sc an ac S A w h g hm
theorem fl_inj {S A S' A' : List Int} (h1 : In64 S) (h2 : In64 A) (h3 : In64 S') (h4 : In64 A') (m1 : mayA S A = 0) (m2 : mayA S' A' = 0) (h : fl S A = fl S' A') : S = S' ∧ A = A' := by
  have e1 := rd_fl h1 h2 m1
  have e2 := rd_fl h3 h4 m2
  rw [h, e2] at e1
  exact ⟨by have := congrArg (·.1) e1; exact this.symm, by have := congrArg (·.2.1) e1; exact this.symm⟩
/-- Both arrays in their boxes. -/
structure Ab (w V : World) (so : Option Addr) (sn sc : Nat) (ao : Option Addr) (an ac : Nat) (xo : Option Addr) (tn tc : Nat) (bo : Option Addr) (bn bc : Nat) (S A S' A' : List Int) : Prop where
  a : V.heap[w.heap.size]? = some (.cells #[.slice so sn sc, .slice ao an ac] 25 (0, 0))
  b : V.heap[w.heap.size + 1]? = some (.cells #[.slice xo tn tc, .slice bo bn bc] 25 (0, 0))
  r1 : Rd V so sn S
  r2 : Rd V ao an A
  r3 : Rd V xo tn S'
  r4 : Rd V bo bn A'
  bel : Below w.heap.size w V
theorem Ab.below {w V V' : World} {so : Option Addr} {sn sc : Nat} {ao : Option Addr} {an ac : Nat} {xo : Option Addr} {tn tc : Nat} {bo : Option Addr} {bn bc : Nat} {S A S' A' : List Int} (h : Ab w V so sn sc ao an ac xo tn tc bo bn bc S A S' A') (k : Below V.heap.size V V') : Ab w V' so sn sc ao an ac xo tn tc bo bn bc S A S' A' :=
  ⟨(k.block _ (Array.getElem?_eq_some_iff.1 h.a).1).trans h.a, (k.block _ (Array.getElem?_eq_some_iff.1 h.b).1).trans h.b, h.r1.below k (Nat.le_refl _), h.r2.below k (Nat.le_refl _), h.r3.below k (Nat.le_refl _), h.r4.below k (Nat.le_refl _), h.bel.trans (k.mono h.bel.size)⟩
theorem ab_start (w : World) (so ao xo bo : Option Addr) (sn sc an ac tn tc bn bc : Nat) (S A S' A' : List Int) (h1 : Rd w so sn S) (h2 : Rd w ao an A) (h3 : Rd w xo tn S') (h4 : Rd w bo bn A') :
    Ab w ((w.alloc (.cells #[.slice so sn sc, .slice ao an ac] 25)).alloc (.cells #[.slice xo tn tc, .slice bo bn bc] 25)) so sn sc ao an ac xo tn tc bo bn bc S A S' A' := by
  have k1 := box_below w (.cells #[.slice so sn sc, .slice ao an ac] 25)
  have k2 := box_below (w.alloc (.cells #[.slice so sn sc, .slice ao an ac] 25)) (.cells #[.slice xo tn tc, .slice bo bn bc] 25)
  have K := k1.trans (k2.mono k1.size)
  have z1 := (k2.block w.heap.size (by simp)).trans (allocNew w (.cells #[.slice so sn sc, .slice ao an ac] 25))
  have z2 := allocNew (w.alloc (.cells #[.slice so sn sc, .slice ao an ac] 25)) (.cells #[.slice xo tn tc, .slice bo bn bc] 25)
  rw [World.size_alloc] at z2
  exact ⟨z1, z2, h1.below K (Nat.le_refl _), h2.below K (Nat.le_refl _), h3.below K (Nat.le_refl _), h4.below K (Nat.le_refl _), K⟩
set_option maxHeartbeats 4000000 in
theorem back_no (so ao xo bo : Option Addr) (sn sc an ac tn tc bn bc : Nat) (S A S' A' : List Int) (w : World) (h1 : Rd w so sn S) (h2 : Rd w ao an A) (h3 : Rd w xo tn S') (h4 : Rd w bo bn A') (T : Tb w) (my : mayA S A ≠ 0) :
    Calls Tryd.prog 3 #[.agg #[.slice so sn sc, .slice ao an ac], .agg #[.slice xo tn tc, .slice bo bn bc]] w fun e w' => e = .returned (.bool true) ∧ Below w.heap.size w w' := by
  have X0 := ab_start w so ao xo bo sn sc an ac tn tc bn bc S A S' A' h1 h2 h3 h4
  have cG := begun10_any _ (T.below X0.bel)
  have hT1 : flT S A = [] := if_neg my
  have hE1 : flE S A = 1 := if_neg my
  obtain ⟨y, hT2⟩ : ∃ y, flT S' A' = y := ⟨_, rfl⟩
  obtain ⟨E2, hE2⟩ : ∃ E2, flE S' A' = E2 := ⟨_, rfl⟩
  have TX := fun V (X : Ab w V so sn sc ao an ac xo tn tc bo bn bc S A S' A') => text_no so ao sn sc an ac S A V X.r1 X.r2 my
  have tm : (mayA S A != 0) = true := by simpa using my
  clear my
  go_enter Tryd.func3, Tryd.ntmps3
  go_wp2_with (first
    | (go_at_call 5; (with_reducible refine cG.mono ?_); rintro e w1 ⟨rfl, k1⟩; have X1 := X0.below k1; obtain ⟨a0, a1, _, _⟩ := box2 X1.a; have cF1 := flat_any so ao sn sc an ac S A w1 X1.r1 X1.r2 (T.below X1.bel); rw [hT1, hE1] at cF1)
    | (go_at_call 6; (with_reducible refine cF1.mono ?_); rintro e w2 ⟨rfl, k2⟩; have X2 := X1.below k2; obtain ⟨b0, b1, _, _⟩ := box2 X2.b; have cF2 := flat_any xo bo tn tc bn bc S' A' w2 X2.r3 X2.r4 (T.below X2.bel); rw [hT2, hE2] at cF2)
    | (go_at_call 6; (with_reducible refine cF2.mono ?_); rintro e w3 ⟨rfl, k3⟩; have X3 := X2.below k3; obtain ⟨c0, c1, _, _⟩ := box2 X3.a; have cT := TX w3 X3)
    | (go_at_call 7; (with_reducible refine cT.mono ?_); rintro e w4 ⟨rfl, k4⟩; have X4 := X3.below k4; obtain ⟨d0, d1, _, _⟩ := box2 X4.a; have cM := mayA_any so ao sn sc an ac S A w4 X4.r1 X4.r2; skip)
    | (go_at_call 8; (with_reducible refine cM.mono ?_); rintro e w5 ⟨rfl, k5⟩; have X5 := X4.below k5; skip))
  go_ret
  exact ⟨rfl, X5.bel⟩
theorem eqA_same (S A : List Int) : eqA S A S A = true := by simp [eqA, eqB]
set_option maxHeartbeats 4000000 in
theorem back_one (so ao xo bo : Option Addr) (sn sc an ac tn tc bn bc : Nat) (S A S' A' : List Int) (w : World) (h1 : Rd w so sn S) (h2 : Rd w ao an A) (h3 : Rd w xo tn S') (h4 : Rd w bo bn A') (T : Tb w) (my : mayA S A = 0) (my2 : mayA S' A' ≠ 0) :
    Calls Tryd.prog 3 #[.agg #[.slice so sn sc, .slice ao an ac], .agg #[.slice xo tn tc, .slice bo bn bc]] w fun e w' => e = .returned (.bool true) ∧ Below w.heap.size w w' := by
  have X0 := ab_start w so ao xo bo sn sc an ac tn tc bn bc S A S' A' h1 h2 h3 h4
  have cG := begun10_any _ (T.below X0.bel)
  have hT1 : flT S A = fl S A := if_pos my
  have hE1 : flE S A = 0 := if_pos my
  have i1 := in64_of h1
  have i2 := in64_of h2
  have hrd : rdAll (fl S A) = (S, A, 0, 0) := rd_fl i1 i2 my
  have hlen : (fl S A).length ≤ 1048576 := by
    have := fl_len i1 i2
    have m8 := (mayF_zero (mayA_zero my).1).2.1
    have mp := pr_le (mayA_zero my).1
    have ml := (mayA_zero my).2
    omega
  have TX := fun V (X : Ab w V so sn sc ao an ac xo tn tc bo bn bc S A S' A') => text_ok so ao sn sc an ac S A V X.r1 X.r2 my (T.below X.bel)
  have hT2 : flT S' A' = [] := if_neg my2
  have hE2 : flE S' A' = 1 := if_neg my2
  have hmy : Hid (mayA S A = 0) := my
  have cRR := fun V (X : Ab w V so sn sc ao an ac xo tn tc bo bn bc S A S' A') => read_any (fl S A) V (by omega) (T.below X.bel)
  rw [hrd] at cRR
  clear my my2 hrd hlen i1 i2
  generalize fl S A = x at *
  generalize txt S A = tx at *
  go_enter Tryd.func3, Tryd.ntmps3
  go_wp2_with (first
    | (go_at_call 5; (with_reducible refine cG.mono ?_); rintro e w1 ⟨rfl, k1⟩; have X1 := X0.below k1; obtain ⟨a0, a1, _, _⟩ := box2 X1.a; have cF1 := flat_any so ao sn sc an ac S A w1 X1.r1 X1.r2 (T.below X1.bel); rw [hT1, hE1] at cF1)
    | (go_at_call 6; (with_reducible refine cF1.mono ?_); rintro e w2 ⟨rfl, k2⟩; have X2 := X1.below k2; obtain ⟨b0, b1, _, _⟩ := box2 X2.b; have cF2 := flat_any xo bo tn tc bn bc S' A' w2 X2.r3 X2.r4 (T.below X2.bel); rw [hT2, hE2] at cF2)
    | (go_at_call 6; (with_reducible refine cF2.mono ?_); rintro e w3 ⟨rfl, k3⟩; have X3 := X2.below k3; obtain ⟨c0, c1, _, _⟩ := box2 X3.a; have cT := TX w3 X3)
    | (go_at_call 7; (with_reducible refine cT.mono ?_); rintro e w4 ⟨rfl, k4⟩; have X4 := X3.below k4; obtain ⟨d0, d1, _, _⟩ := box2 X4.a; have cM := mayA_any so ao sn sc an ac S A w4 X4.r1 X4.r2; rw [hmy.out] at cM)
    | (go_at_call 8; (with_reducible refine cM.mono ?_); rintro e w5 ⟨rfl, k5⟩; have X5 := X4.below k5; have cR := cRR w5 X5)
    | (go_at_call 9; (with_reducible refine cR.mono ?_); rintro e w6 ⟨o1, n1, c1', o2, n2, c2', rfl, f1, f2, k6⟩; have X6 := X5.below k6; have kb := box_below w6 (.cells #[.slice o1 n1 c1', .slice o2 n2 c2'] 25); have X7 := X6.below kb; obtain ⟨u0, u1, _, _⟩ := box2 (allocNew w6 (.cells #[.slice o1 n1 c1', .slice o2 n2 c2'] 25)); obtain ⟨v0, v1, _, _⟩ := box2 X7.a; have cE := eq4_any o1 o2 so ao n1 c1' n2 c2' sn sc an ac S A S A _ (f1.below kb (Nat.le_refl _)).rd (f2.below kb (Nat.le_refl _)).rd X7.r1 X7.r2; rw [eqA_same] at cE)
    | (go_at_call 10; (with_reducible refine cE.mono ?_); rintro e w8 ⟨rfl, k8⟩; have X8 := X7.below k8; obtain ⟨p0, p1, _, _⟩ := box2 X8.a; obtain ⟨q0, q1, _, _⟩ := box2 X8.b; have cE2 := eq4_any so ao xo bo sn sc an ac tn tc bn bc S A S' A' w8 X8.r1 X8.r2 X8.r3 X8.r4; skip))
  go_ret
  exact ⟨rfl, X8.bel⟩
set_option maxHeartbeats 4000000 in
theorem back_same (so ao xo bo : Option Addr) (sn sc an ac tn tc bn bc : Nat) (S A : List Int) (w : World) (h1 : Rd w so sn S) (h2 : Rd w ao an A) (h3 : Rd w xo tn S) (h4 : Rd w bo bn A) (T : Tb w) (my : mayA S A = 0)   :
    Calls Tryd.prog 3 #[.agg #[.slice so sn sc, .slice ao an ac], .agg #[.slice xo tn tc, .slice bo bn bc]] w fun e w' => e = .returned (.bool true) ∧ Below w.heap.size w w' := by
  have X0 := ab_start w so ao xo bo sn sc an ac tn tc bn bc S A S A h1 h2 h3 h4
  have cG := begun10_any _ (T.below X0.bel)
  have hT1 : flT S A = fl S A := if_pos my
  have hE1 : flE S A = 0 := if_pos my
  have i1 := in64_of h1
  have i2 := in64_of h2
  have hrd : rdAll (fl S A) = (S, A, 0, 0) := rd_fl i1 i2 my
  have hlen : (fl S A).length ≤ 1048576 := by
    have := fl_len i1 i2
    have m8 := (mayF_zero (mayA_zero my).1).2.1
    have mp := pr_le (mayA_zero my).1
    have ml := (mayA_zero my).2
    omega
  have TX := fun V (X : Ab w V so sn sc ao an ac xo tn tc bo bn bc S A S A) => text_ok so ao sn sc an ac S A V X.r1 X.r2 my (T.below X.bel)
  have hT2 : flT S A = fl S A := if_pos my
  have hE2 : flE S A = 0 := if_pos my
  have hmy : Hid (mayA S A = 0) := my
  have cRR := fun V (X : Ab w V so sn sc ao an ac xo tn tc bo bn bc S A S A) => read_any (fl S A) V (by omega) (T.below X.bel)
  rw [hrd] at cRR
  have hq : eqA S A S A = true := eqA_same S A
  clear my hrd hlen i1 i2
  generalize fl S A = x at *
  generalize txt S A = tx at *
  go_enter Tryd.func3, Tryd.ntmps3
  go_wp2_with (first
    | (go_at_call 5; (with_reducible refine cG.mono ?_); rintro e w1 ⟨rfl, k1⟩; have X1 := X0.below k1; obtain ⟨a0, a1, _, _⟩ := box2 X1.a; have cF1 := flat_any so ao sn sc an ac S A w1 X1.r1 X1.r2 (T.below X1.bel); rw [hT1, hE1] at cF1)
    | (go_at_call 6; (with_reducible refine cF1.mono ?_); rintro e w2 ⟨rfl, k2⟩; have X2 := X1.below k2; obtain ⟨b0, b1, _, _⟩ := box2 X2.b; have cF2 := flat_any xo bo tn tc bn bc S A w2 X2.r3 X2.r4 (T.below X2.bel); rw [hT2, hE2] at cF2)
    | (go_at_call 6; (with_reducible refine cF2.mono ?_); rintro e w3 ⟨rfl, k3⟩; have X3 := X2.below k3; obtain ⟨c0, c1, _, _⟩ := box2 X3.a; have cT := TX w3 X3)
    | (go_at_call 7; (with_reducible refine cT.mono ?_); rintro e w4 ⟨rfl, k4⟩; have X4 := X3.below k4; obtain ⟨d0, d1, _, _⟩ := box2 X4.a; have cM := mayA_any so ao sn sc an ac S A w4 X4.r1 X4.r2; rw [hmy.out] at cM)
    | (go_at_call 8; (with_reducible refine cM.mono ?_); rintro e w5 ⟨rfl, k5⟩; have X5 := X4.below k5; have cR := cRR w5 X5)
    | (go_at_call 9; (with_reducible refine cR.mono ?_); rintro e w6 ⟨o1, n1, c1', o2, n2, c2', rfl, f1, f2, k6⟩; have X6 := X5.below k6; have kb := box_below w6 (.cells #[.slice o1 n1 c1', .slice o2 n2 c2'] 25); have X7 := X6.below kb; obtain ⟨u0, u1, _, _⟩ := box2 (allocNew w6 (.cells #[.slice o1 n1 c1', .slice o2 n2 c2'] 25)); obtain ⟨v0, v1, _, _⟩ := box2 X7.a; have cE := eq4_any o1 o2 so ao n1 c1' n2 c2' sn sc an ac S A S A _ (f1.below kb (Nat.le_refl _)).rd (f2.below kb (Nat.le_refl _)).rd X7.r1 X7.r2; rw [eqA_same] at cE)
    | (go_at_call 10; (with_reducible refine cE.mono ?_); rintro e w8 ⟨rfl, k8⟩; have X8 := X7.below k8; obtain ⟨p0, p1, _, _⟩ := box2 X8.a; obtain ⟨q0, q1, _, _⟩ := box2 X8.b; have cE2 := eq4_any so ao xo bo sn sc an ac tn tc bn bc S A S A w8 X8.r1 X8.r2 X8.r3 X8.r4; rw [hq] at cE2)
    | (go_at_call 10; (with_reducible refine cE2.mono ?_); rintro e w9 ⟨rfl, k9⟩; have X9 := X8.below k9))
  go_ret
  exact ⟨rfl, X9.bel⟩
set_option maxHeartbeats 4000000 in
theorem back_diff (so ao xo bo : Option Addr) (sn sc an ac tn tc bn bc : Nat) (S A S' A' : List Int) (w : World) (h1 : Rd w so sn S) (h2 : Rd w ao an A) (h3 : Rd w xo tn S') (h4 : Rd w bo bn A') (T : Tb w) (my : mayA S A = 0) (my2 : mayA S' A' = 0) (hd : ¬ (S = S' ∧ A = A')) :
    Calls Tryd.prog 3 #[.agg #[.slice so sn sc, .slice ao an ac], .agg #[.slice xo tn tc, .slice bo bn bc]] w fun e w' => e = .returned (.bool true) ∧ Below w.heap.size w w' := by
  have X0 := ab_start w so ao xo bo sn sc an ac tn tc bn bc S A S' A' h1 h2 h3 h4
  have cG := begun10_any _ (T.below X0.bel)
  have hT1 : flT S A = fl S A := if_pos my
  have hE1 : flE S A = 0 := if_pos my
  have i1 := in64_of h1
  have i2 := in64_of h2
  have hrd : rdAll (fl S A) = (S, A, 0, 0) := rd_fl i1 i2 my
  have hlen : (fl S A).length ≤ 1048576 := by
    have := fl_len i1 i2
    have m8 := (mayF_zero (mayA_zero my).1).2.1
    have mp := pr_le (mayA_zero my).1
    have ml := (mayA_zero my).2
    omega
  have TX := fun V (X : Ab w V so sn sc ao an ac xo tn tc bo bn bc S A S' A') => text_ok so ao sn sc an ac S A V X.r1 X.r2 my (T.below X.bel)
  have hT2 : flT S' A' = fl S' A' := if_pos my2
  have hE2 : flE S' A' = 0 := if_pos my2
  have hmy : Hid (mayA S A = 0) := my
  have cRR := fun V (X : Ab w V so sn sc ao an ac xo tn tc bo bn bc S A S' A') => read_any (fl S A) V (by omega) (T.below X.bel)
  rw [hrd] at cRR
  have hne : fl S A ≠ fl S' A' := fun e => hd (fl_inj i1 i2 (in64_of h3) (in64_of h4) my my2 e)
  have hq : eqA S A S' A' = false := by
    cases hc : eqA S A S' A' with
    | false => rfl
    | true =>
      exfalso
      simp [eqA, eqB] at hc
      exact hd hc
  have hs : (fl S A == fl S' A') = false := by simpa using hne
  clear hd hne
  clear my my2 hrd hlen i1 i2
  generalize fl S A = x at *
  generalize fl S' A' = y at *
  generalize txt S A = tx at *
  go_enter Tryd.func3, Tryd.ntmps3
  go_wp2_with (first
    | (go_at_call 5; (with_reducible refine cG.mono ?_); rintro e w1 ⟨rfl, k1⟩; have X1 := X0.below k1; obtain ⟨a0, a1, _, _⟩ := box2 X1.a; have cF1 := flat_any so ao sn sc an ac S A w1 X1.r1 X1.r2 (T.below X1.bel); rw [hT1, hE1] at cF1)
    | (go_at_call 6; (with_reducible refine cF1.mono ?_); rintro e w2 ⟨rfl, k2⟩; have X2 := X1.below k2; obtain ⟨b0, b1, _, _⟩ := box2 X2.b; have cF2 := flat_any xo bo tn tc bn bc S' A' w2 X2.r3 X2.r4 (T.below X2.bel); rw [hT2, hE2] at cF2)
    | (go_at_call 6; (with_reducible refine cF2.mono ?_); rintro e w3 ⟨rfl, k3⟩; have X3 := X2.below k3; obtain ⟨c0, c1, _, _⟩ := box2 X3.a; have cT := TX w3 X3)
    | (go_at_call 7; (with_reducible refine cT.mono ?_); rintro e w4 ⟨rfl, k4⟩; have X4 := X3.below k4; obtain ⟨d0, d1, _, _⟩ := box2 X4.a; have cM := mayA_any so ao sn sc an ac S A w4 X4.r1 X4.r2; rw [hmy.out] at cM)
    | (go_at_call 8; (with_reducible refine cM.mono ?_); rintro e w5 ⟨rfl, k5⟩; have X5 := X4.below k5; have cR := cRR w5 X5)
    | (go_at_call 9; (with_reducible refine cR.mono ?_); rintro e w6 ⟨o1, n1, c1', o2, n2, c2', rfl, f1, f2, k6⟩; have X6 := X5.below k6; have kb := box_below w6 (.cells #[.slice o1 n1 c1', .slice o2 n2 c2'] 25); have X7 := X6.below kb; obtain ⟨u0, u1, _, _⟩ := box2 (allocNew w6 (.cells #[.slice o1 n1 c1', .slice o2 n2 c2'] 25)); obtain ⟨v0, v1, _, _⟩ := box2 X7.a; have cE := eq4_any o1 o2 so ao n1 c1' n2 c2' sn sc an ac S A S A _ (f1.below kb (Nat.le_refl _)).rd (f2.below kb (Nat.le_refl _)).rd X7.r1 X7.r2; rw [eqA_same] at cE)
    | (go_at_call 10; (with_reducible refine cE.mono ?_); rintro e w8 ⟨rfl, k8⟩; have X8 := X7.below k8; obtain ⟨p0, p1, _, _⟩ := box2 X8.a; obtain ⟨q0, q1, _, _⟩ := box2 X8.b; have cE2 := eq4_any so ao xo bo sn sc an ac tn tc bn bc S A S' A' w8 X8.r1 X8.r2 X8.r3 X8.r4; rw [hq] at cE2)
    | (go_at_call 10; (with_reducible refine cE2.mono ?_); rintro e w9 ⟨rfl, k9⟩; have X9 := X8.below k9))
  go_ret
  exact ⟨rfl, X9.bel⟩
theorem back10_any (so ao xo bo : Option Addr) (sn sc an ac tn tc bn bc : Nat) (S A S' A' : List Int) (w : World) (h1 : Rd w so sn S) (h2 : Rd w ao an A) (h3 : Rd w xo tn S') (h4 : Rd w bo bn A') (T : Tb w) :
    Calls Tryd.prog 3 #[.agg #[.slice so sn sc, .slice ao an ac], .agg #[.slice xo tn tc, .slice bo bn bc]] w fun e w' => e = .returned (.bool true) ∧ Below w.heap.size w w' := by
  by_cases my : mayA S A = 0
  · by_cases my2 : mayA S' A' = 0
    · by_cases hd : S = S' ∧ A = A'
      · obtain ⟨e1, e2⟩ := hd
        subst e1 e2
        exact back_same so ao xo bo sn sc an ac tn tc bn bc S A w h1 h2 h3 h4 T my
      · exact back_diff so ao xo bo sn sc an ac tn tc bn bc S A S' A' w h1 h2 h3 h4 T my my2 hd
    · exact back_one so ao xo bo sn sc an ac tn tc bn bc S A S' A' w h1 h2 h3 h4 T my my2
  · exact back_no so ao xo bo sn sc an ac tn tc bn bc S A S' A' w h1 h2 h3 h4 T my
end Go.Proofs.YtcknmfhbjkadcaaDoor
