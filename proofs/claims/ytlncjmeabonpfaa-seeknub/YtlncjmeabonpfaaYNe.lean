
/- SeekNub: the law. -/

import Derived.Test.YtlncjmeabonpfaaYNd

namespace Go.Proofs.Ytlncjmeabonpfaa

open Go.RowKit

set_option linter.unusedVariables false

/-- The array that was handed in, and that nothing of before was changed. -/
structure G1 (w V : World) (so : Option Addr) (sn sc : Nat) (ao : Option Addr) (an ac : Nat) (sh at' : List Int) : Prop where
  x : Ar V w.heap.size so sn sc ao an ac sh at'
  bel : Below w.heap.size w V
theorem G1.below {w V V' : World} {so : Option Addr} {sn sc : Nat} {ao : Option Addr} {an ac : Nat} {sh at' : List Int} (h : G1 w V so sn sc ao an ac sh at') (k : Below V.heap.size V V') : G1 w V' so sn sc ao an ac sh at' :=
  ⟨h.x.below k, h.bel.trans (k.mono h.bel.size)⟩
theorem g1_start (w : World) (so : Option Addr) (sn sc : Nat) (ao : Option Addr) (an ac : Nat) (sh at' : List Int) (h : Rd w so sn sh) (g : Rd w ao an at') :
    G1 w (w.alloc (.cells #[.slice so sn sc, .slice ao an ac] 25)) so sn sc ao an ac sh at' := ⟨ar_new (c := sc) (d := ac) h g, box_below w _⟩

set_option maxHeartbeats 2000000 in
set_option maxRecDepth 20000 in
theorem nub_bad (so : Option Addr) (sn sc : Nat) (ao : Option Addr) (an ac : Nat) (sh at' : List Int) (w : World) (h : Rd w so sn sh) (hs : Sl so sn sc) (g : Rd w ao an at') (gs : Sl ao an ac) (mx : mayA sh at' ≠ 0) :
    Calls Try.prog 4 #[.agg #[.slice so sn sc, .slice ao an ac]] w fun e w' => e = .returned (.bool true) ∧ Below w.heap.size w w' := by
  have I0 := g1_start w so sn sc ao an ac sh at' h g
  have cX := fun V (I : Ar V w.heap.size so sn sc ao an ac sh at') => mayA_any so ao sn sc an ac sh at' V I.s I.a
  have cM := fun V (I : Ar V w.heap.size so sn sc ao an ac sh at') => monadS_bad 36 so ao sn sc an ac sh at' V I.s I.a mx
  generalize mayA sh at' = M at *
  have t1 : (M != 0) = true := by simpa using mx
  clear mx
  obtain ⟨x0, x1, _, _⟩ := box2 I0.x.box
  go_enter Try.func4, Try.ntmps4
  go_wp2_with (first
    | (go_at_call 7; (with_reducible refine (begun7_any _).mono ?_); rintro e W1 ⟨rfl, k1⟩; have I1 := I0.below k1; obtain ⟨p0, p1, _, _⟩ := box2 I1.x.box)
    | (go_at_call 8; (with_reducible refine (cX _ I1.x).mono ?_); rintro e W2 ⟨rfl, k2⟩; have I2 := I1.below k2; obtain ⟨q2, q3, _, _⟩ := box2 I2.x.box)
    | (go_at_call 9; (with_reducible refine (cM _ I2.x).mono ?_); rintro e W3 ⟨o1, n1, c1, o2, n2, c2, S3, A3, rfl, f3, g3, _, k3⟩; have I3 := (I2.below k3).below (box_below W3 (.cells #[.slice o1 n1 c1, .slice o2 n2 c2] 25))))
  go_ret
  exact ⟨rfl, I3.bel⟩
end Go.Proofs.Ytlncjmeabonpfaa
