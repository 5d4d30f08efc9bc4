
/- SeekFrom: the law. -/

import Derived.Test.YtlncjmeabonpfaaYQ

namespace Go.Proofs.Ytlncjmeabonpfaa

open Go.RowKit

set_option linter.unusedVariables false

/-- An array that lies in a box. -/
structure Ar (V : World) (g : Nat) (o : Option Addr) (n c : Nat) (p : Option Addr) (m d : Nat) (S A : List Int) : Prop where
  box : V.heap[g]? = some (.cells #[.slice o n c, .slice p m d] 25 (0, 0))
  s : Rd V o n S
  a : Rd V p m A
theorem Ar.below {V V' : World} {g : Nat} {o : Option Addr} {n c : Nat} {p : Option Addr} {m d : Nat} {S A : List Int} (h : Ar V g o n c p m d S A) (k : Below V.heap.size V V') : Ar V' g o n c p m d S A :=
  ⟨(k.block g (Array.getElem?_eq_some_iff.1 h.box).1).trans h.box, h.s.below k (Nat.le_refl _), h.a.below k (Nat.le_refl _)⟩
theorem ar_new {V : World} {o : Option Addr} {n c : Nat} {p : Option Addr} {m d : Nat} {S A : List Int} (h1 : Rd V o n S) (h2 : Rd V p m A) : Ar (V.alloc (.cells #[.slice o n c, .slice p m d] 25)) V.heap.size o n c p m d S A :=
  ⟨allocNew V _, h1.below (box_below V _) (Nat.le_refl _), h2.below (box_below V _) (Nat.le_refl _)⟩
/-- Both arrays, what PFrom and what PMatch answered. -/
structure Fw (w V : World) (so : Option Addr) (sn sc : Nat) (ao : Option Addr) (an ac : Nat) (uo : Option Addr) (un uc : Nat) (bo : Option Addr) (bn bc : Nat) (ga : Nat) (oa : Option Addr) (na ca : Nat) (pa : Option Addr) (ma da : Nat) (gc : Nat) (oc : Option Addr) (nc cc : Nat) (pc : Option Addr) (mc dc : Nat) (sh at' th bt' SA AA SC AC : List Int) : Prop where
  x : Ar V w.heap.size so sn sc ao an ac sh at'
  y : Ar V (w.heap.size + 1) uo un uc bo bn bc th bt'
  a : Ar V ga oa na ca pa ma da SA AA
  c : Ar V gc oc nc cc pc mc dc SC AC
  bel : Below w.heap.size w V
theorem Fw.below {w V V' : World} {so : Option Addr} {sn sc : Nat} {ao : Option Addr} {an ac : Nat} {uo : Option Addr} {un uc : Nat} {bo : Option Addr} {bn bc : Nat} {ga : Nat} {oa : Option Addr} {na ca : Nat} {pa : Option Addr} {ma da : Nat} {gc : Nat} {oc : Option Addr} {nc cc : Nat} {pc : Option Addr} {mc dc : Nat} {sh at' th bt' SA AA SC AC : List Int} (h : Fw w V so sn sc ao an ac uo un uc bo bn bc ga oa na ca pa ma da gc oc nc cc pc mc dc sh at' th bt' SA AA SC AC) (k : Below V.heap.size V V') : Fw w V' so sn sc ao an ac uo un uc bo bn bc ga oa na ca pa ma da gc oc nc cc pc mc dc sh at' th bt' SA AA SC AC :=
  ⟨h.x.below k, h.y.below k, h.a.below k, h.c.below k, h.bel.trans (k.mono h.bel.size)⟩
theorem Fw.drew {w V : World} {so : Option Addr} {sn sc : Nat} {ao : Option Addr} {an ac : Nat} {uo : Option Addr} {un uc : Nat} {bo : Option Addr} {bn bc : Nat} {ga : Nat} {oa : Option Addr} {na ca : Nat} {pa : Option Addr} {ma da : Nat} {gc : Nat} {oc : Option Addr} {nc cc : Nat} {pc : Option Addr} {mc dc : Nat} {sh at' th bt' SA AA SC AC : List Int} (h : Fw w V so sn sc ao an ac uo un uc bo bn bc ga oa na ca pa ma da gc oc nc cc pc mc dc sh at' th bt' SA AA SC AC) : Fw w V.drew so sn sc ao an ac uo un uc bo bn bc ga oa na ca pa ma da gc oc nc cc pc mc dc sh at' th bt' SA AA SC AC := h.below (Below.refl _ _).drew
/-- Both arrays alone. -/
structure F0 (w V : World) (so : Option Addr) (sn sc : Nat) (ao : Option Addr) (an ac : Nat) (uo : Option Addr) (un uc : Nat) (bo : Option Addr) (bn bc : Nat) (sh at' th bt' : List Int) : Prop where
  x : Ar V w.heap.size so sn sc ao an ac sh at'
  y : Ar V (w.heap.size + 1) uo un uc bo bn bc th bt'
  bel : Below w.heap.size w V
theorem F0.below {w V V' : World} {so : Option Addr} {sn sc : Nat} {ao : Option Addr} {an ac : Nat} {uo : Option Addr} {un uc : Nat} {bo : Option Addr} {bn bc : Nat} {sh at' th bt' : List Int} (h : F0 w V so sn sc ao an ac uo un uc bo bn bc sh at' th bt') (k : Below V.heap.size V V') : F0 w V' so sn sc ao an ac uo un uc bo bn bc sh at' th bt' :=
  ⟨h.x.below k, h.y.below k, h.bel.trans (k.mono h.bel.size)⟩
theorem f0_start (w : World) (so : Option Addr) (sn sc : Nat) (ao : Option Addr) (an ac : Nat) (uo : Option Addr) (un uc : Nat) (bo : Option Addr) (bn bc : Nat) (sh at' th bt' : List Int) (h : Rd w so sn sh) (g : Rd w ao an at') (h2 : Rd w uo un th) (g2 : Rd w bo bn bt') :
    F0 w ((w.alloc (.cells #[.slice so sn sc, .slice ao an ac] 25)).alloc (.cells #[.slice uo un uc, .slice bo bn bc] 25)) so sn sc ao an ac uo un uc bo bn bc sh at' th bt' := by
  have k1 := box_below w (.cells #[.slice so sn sc, .slice ao an ac] 25)
  have k2 := box_below (w.alloc (.cells #[.slice so sn sc, .slice ao an ac] 25)) (.cells #[.slice uo un uc, .slice bo bn bc] 25)
  have a1 := (ar_new (c := sc) (d := ac) h g).below k2
  have a2 := ar_new (c := uc) (d := bc) (h2.below k1 (Nat.le_refl _)) (g2.below k1 (Nat.le_refl _))
  rw [World.size_alloc] at a2
  exact ⟨a1, a2, k1.trans (k2.mono (by simp))⟩

set_option maxHeartbeats 4000000 in
set_option maxRecDepth 20000 in
theorem from_badx (so : Option Addr) (sn sc : Nat) (ao : Option Addr) (an ac : Nat) (uo : Option Addr) (un uc : Nat) (bo : Option Addr) (bn bc : Nat) (sh at' th bt' : List Int) (w : World) (h : Rd w so sn sh) (hs : Sl so sn sc) (g : Rd w ao an at') (gs : Sl ao an ac) (h2 : Rd w uo un th) (hs2 : Sl uo un uc) (g2 : Rd w bo bn bt') (gs2 : Sl bo bn bc) (mx : mayA sh at' ≠ 0) :
    Calls Try.prog 6 #[.agg #[.slice so sn sc, .slice ao an ac], .agg #[.slice uo un uc, .slice bo bn bc]] w fun e w' => e = .returned (.bool true) ∧ Below w.heap.size w w' := by
  have I0 := f0_start w so sn sc ao an ac uo un uc bo bn bc sh at' th bt' h g h2 g2
  have cF := fun V (I : F0 w V so sn sc ao an ac uo un uc bo bn bc sh at' th bt') => dyadS_badx 27 so ao uo bo sn sc an ac un uc bn bc sh at' th bt' V I.x.s I.x.a I.y.s I.y.a mx
  have cM := fun V (I : F0 w V so sn sc ao an ac uo un uc bo bn bc sh at' th bt') => dyadS_badx 19 so ao uo bo sn sc an ac un uc bn bc sh at' th bt' V I.x.s I.x.a I.y.s I.y.a mx
  have cX := fun V (I : Ar V w.heap.size so sn sc ao an ac sh at') => mayA_any so ao sn sc an ac sh at' V I.s I.a
  have cY := fun V (I : Ar V (w.heap.size + 1) uo un uc bo bn bc th bt') => mayA_any uo bo un uc bn bc th bt' V I.s I.a
  generalize mayA sh at' = M at *
  have t1 : (M != 0) = true := by simpa using mx
  clear mx
  obtain ⟨x0, x1, _, _⟩ := box2 I0.x.box
  obtain ⟨x2, x3, _, _⟩ := box2 I0.y.box
  go_enter Try.func6, Try.ntmps6
  go_wp2_with (first
    | (go_at_call 7; (with_reducible refine (begun7_any _).mono ?_); rintro e W1 ⟨rfl, k1⟩; have I1 := I0.below k1; obtain ⟨p0, p1, _, _⟩ := box2 I1.x.box; obtain ⟨p2, p3, _, _⟩ := box2 I1.y.box)
    | (go_at_call 11; (with_reducible refine (cF W1 I1).mono ?_); rintro e W2 ⟨oa, na, ca, pa, ma, da, SA, AA, rfl, f2, f2a, ⟨rfl, rfl⟩, k2⟩; have I2 := (I1.below k2).below (box_below W2 (.cells #[.slice oa na ca, .slice pa ma da] 25)); have A2 := ar_new (c := ca) (d := da) f2.rd f2a.rd; obtain ⟨q0, q1, _, _⟩ := box2 I2.x.box; obtain ⟨q2, q3, _, _⟩ := box2 I2.y.box)
    | (go_at_call 11; (with_reducible refine (cM _ I2).mono ?_); rintro e W3 ⟨oc, nc, cc, pc, mc, dc, SC, AC, rfl, f3, f3a, ⟨rfl, rfl⟩, k3⟩; have k3b := box_below W3 (.cells #[.slice oc nc cc, .slice pc mc dc] 25); have I3 := (I2.below k3).below k3b; have A3 := (A2.below k3).below k3b; have C3 := ar_new (c := cc) (d := dc) f3.rd f3a.rd; have FW : Fw w (W3.alloc (.cells #[.slice oc nc cc, .slice pc mc dc] 25)) so sn sc ao an ac uo un uc bo bn bc W2.heap.size oa na ca pa ma da W3.heap.size oc nc cc pc mc dc sh at' th bt' _ _ _ _ := ⟨I3.x, I3.y, A3, C3, I3.bel⟩; obtain ⟨z0, z1, _, _⟩ := box2 I3.x.box; obtain ⟨z2, z3, _, _⟩ := box2 I3.y.box)
    | (go_at_call 8; (with_reducible refine (cX _ FW.x).mono ?_); rintro e W4 ⟨rfl, k4⟩; have F4 := FW.below k4; obtain ⟨y0, y1, _, _⟩ := box2 F4.a.box)
    | (go_at_call 15; (with_reducible refine (eqT _ _ _ _ _ _ _ _ _ _ _ _ _ _ _ F4.a.s F4.a.a (Rd.nil _) (Rd.nil _)).mono ?_); rintro e W5 ⟨rfl, k5⟩; have F5 := F4.below k5; obtain ⟨v0, v1, _, _⟩ := box2 F5.c.box)
    | (go_at_call 15; (with_reducible refine (eqT _ _ _ _ _ _ _ _ _ _ _ _ _ _ _ F5.c.s F5.c.a (Rd.nil _) (Rd.nil _)).mono ?_); rintro e W6 ⟨rfl, k6⟩; have F6 := F5.below k6))
  go_ret
  exact ⟨rfl, F6.bel⟩

set_option maxHeartbeats 4000000 in
set_option maxRecDepth 20000 in
theorem from_bady (so : Option Addr) (sn sc : Nat) (ao : Option Addr) (an ac : Nat) (uo : Option Addr) (un uc : Nat) (bo : Option Addr) (bn bc : Nat) (sh at' th bt' : List Int) (w : World) (h : Rd w so sn sh) (hs : Sl so sn sc) (g : Rd w ao an at') (gs : Sl ao an ac) (h2 : Rd w uo un th) (hs2 : Sl uo un uc) (g2 : Rd w bo bn bt') (gs2 : Sl bo bn bc) (mx : mayA sh at' = 0) (my : mayA th bt' ≠ 0) :
    Calls Try.prog 6 #[.agg #[.slice so sn sc, .slice ao an ac], .agg #[.slice uo un uc, .slice bo bn bc]] w fun e w' => e = .returned (.bool true) ∧ Below w.heap.size w w' := by
  have I0 := f0_start w so sn sc ao an ac uo un uc bo bn bc sh at' th bt' h g h2 g2
  have cF := fun V (I : F0 w V so sn sc ao an ac uo un uc bo bn bc sh at' th bt') => dyadS_bady 27 so ao uo bo sn sc an ac un uc bn bc sh at' th bt' V I.x.s I.x.a I.y.s I.y.a mx my
  have cM := fun V (I : F0 w V so sn sc ao an ac uo un uc bo bn bc sh at' th bt') => dyadS_bady 19 so ao uo bo sn sc an ac un uc bn bc sh at' th bt' V I.x.s I.x.a I.y.s I.y.a mx my
  have cX := fun V (I : Ar V w.heap.size so sn sc ao an ac sh at') => mayA_any so ao sn sc an ac sh at' V I.s I.a
  have cY := fun V (I : Ar V (w.heap.size + 1) uo un uc bo bn bc th bt') => mayA_any uo bo un uc bn bc th bt' V I.s I.a
  rw [mx] at cX
  generalize mayA th bt' = M at *
  have t1 : (M != 0) = true := by simpa using my
  clear my mx
  obtain ⟨x0, x1, _, _⟩ := box2 I0.x.box
  obtain ⟨x2, x3, _, _⟩ := box2 I0.y.box
  go_enter Try.func6, Try.ntmps6
  go_wp2_with (first
    | (go_at_call 7; (with_reducible refine (begun7_any _).mono ?_); rintro e W1 ⟨rfl, k1⟩; have I1 := I0.below k1; obtain ⟨p0, p1, _, _⟩ := box2 I1.x.box; obtain ⟨p2, p3, _, _⟩ := box2 I1.y.box)
    | (go_at_call 11; (with_reducible refine (cF W1 I1).mono ?_); rintro e W2 ⟨oa, na, ca, pa, ma, da, SA, AA, rfl, f2, f2a, ⟨rfl, rfl⟩, k2⟩; have I2 := (I1.below k2).below (box_below W2 (.cells #[.slice oa na ca, .slice pa ma da] 25)); have A2 := ar_new (c := ca) (d := da) f2.rd f2a.rd; obtain ⟨q0, q1, _, _⟩ := box2 I2.x.box; obtain ⟨q2, q3, _, _⟩ := box2 I2.y.box)
    | (go_at_call 11; (with_reducible refine (cM _ I2).mono ?_); rintro e W3 ⟨oc, nc, cc, pc, mc, dc, SC, AC, rfl, f3, f3a, ⟨rfl, rfl⟩, k3⟩; have k3b := box_below W3 (.cells #[.slice oc nc cc, .slice pc mc dc] 25); have I3 := (I2.below k3).below k3b; have A3 := (A2.below k3).below k3b; have C3 := ar_new (c := cc) (d := dc) f3.rd f3a.rd; have FW : Fw w (W3.alloc (.cells #[.slice oc nc cc, .slice pc mc dc] 25)) so sn sc ao an ac uo un uc bo bn bc W2.heap.size oa na ca pa ma da W3.heap.size oc nc cc pc mc dc sh at' th bt' _ _ _ _ := ⟨I3.x, I3.y, A3, C3, I3.bel⟩; obtain ⟨z0, z1, _, _⟩ := box2 I3.x.box; obtain ⟨z2, z3, _, _⟩ := box2 I3.y.box)
    | (go_at_call 8; (with_reducible refine (cX _ FW.x).mono ?_); rintro e W4' ⟨rfl, k4⟩; have F4' := FW.below k4; obtain ⟨y2, y3, _, _⟩ := box2 F4'.y.box)
    | (go_at_call 8; (with_reducible refine (cY _ F4'.y).mono ?_); rintro e W4 ⟨rfl, k4y⟩; have F4 := F4'.below k4y; obtain ⟨y0, y1, _, _⟩ := box2 F4.a.box)
    | (go_at_call 15; (with_reducible refine (eqT _ _ _ _ _ _ _ _ _ _ _ _ _ _ _ F4.a.s F4.a.a (Rd.nil _) (Rd.nil _)).mono ?_); rintro e W5 ⟨rfl, k5⟩; have F5 := F4.below k5; obtain ⟨v0, v1, _, _⟩ := box2 F5.c.box)
    | (go_at_call 15; (with_reducible refine (eqT _ _ _ _ _ _ _ _ _ _ _ _ _ _ _ F5.c.s F5.c.a (Rd.nil _) (Rd.nil _)).mono ?_); rintro e W6 ⟨rfl, k6⟩; have F6 := F5.below k6))
  go_ret
  exact ⟨rfl, F6.bel⟩

end Go.Proofs.Ytlncjmeabonpfaa
