
/- Every call of the law of layer 3 answers true. -/

import Derived.Test.YtkplfnajhinkiaaP5
import Derived.Test.YtkplfnajhinkiaaP6
import Derived.Test.YtkplfnajhinkiaaP7
import Derived.Test.YtkplfnajhinkiaaP8
import Derived.Test.YtkplfnajhinkiaaP9
import Derived.Test.YtkplfnajhinkiaaP10
import Derived.Test.YtkplfnajhinkiaaP11
import Derived.Test.YtkplfnajhinkiaaP12








namespace Go.Proofs.Ytkplfnajhinkiaa

open Go.RowKit

set_option linter.unusedVariables false

theorem plays_any (hb gb B : Nat) (K N I : Int) (so : Option Addr) (sn sc : Nat) (ao : Option Addr) (an ac : Nat) (uo : Option Addr) (tn tc : Nat) (bo : Option Addr) (bn bc : Nat) (lo : Option Addr) (ln lc : Nat) (s a t b l : List Int) (go0 go1 ho0 ho1 : Option Addr) (n0 n1 m0 m1 : Nat) (w : World) (rs : Rd w so sn s) (ra : Rd w ao an a) (rt : Rd w uo tn t) (rb : Rd w bo bn b) (rl : Rd w lo ln l) (ls : (0 < sn → ∀ b off, so = some ⟨b, off, none⟩ → b < B)) (la : (0 < an → ∀ b off, ao = some ⟨b, off, none⟩ → b < B)) (lt : (0 < tn → ∀ b off, uo = some ⟨b, off, none⟩ → b < B)) (lb : (0 < bn → ∀ b off, bo = some ⟨b, off, none⟩ → b < B)) (ll : (0 < ln → ∀ b off, lo = some ⟨b, off, none⟩ → b < B)) (hB : B ≤ w.heap.size) (h : Hx w B hb go0 n0 go1 n1) (g : Hx w B gb ho0 m0 ho1 m1) (d : Dis hb gb go0 go1 ho0 ho1) (ss : Sl so sn sc) (sa : Sl ao an ac) (st : Sl uo tn tc) (sb : Sl bo bn bc) (sl : Sl lo ln lc) (hN1 : -9223372036854775808 ≤ N) (hN2 : N ≤ 9223372036854775807) (hI1 : -9223372036854775808 ≤ I) (hI2 : I ≤ 9223372036854775807) : Calls Try.prog 19 #[.agg #[.int .i64 K, .slice so sn sc, .slice ao an ac, .slice uo tn tc, .slice bo bn bc, .int .i64 N, .int .i64 I, .slice lo ln lc], .pointer (some ⟨hb, 0, none⟩), .pointer (some ⟨gb, 0, none⟩)] w fun e w' => e = .returned (.bool true) ∧ ∃ r0 r1 q0 q1, (∃ m0 m1, Hx w' B hb r0 m0 r1 m1) ∧ (∃ m0 m1, Hx w' B gb q0 m0 q1 m1) ∧ Dis hb gb r0 r1 q0 q1 ∧ Below B w w' := by
  by_cases k1 : K = 1
  · exact plays_May hb gb B K N I so sn sc ao an ac uo tn tc bo bn bc lo ln lc s a t b l go0 go1 ho0 ho1 n0 n1 m0 m1 w rs ra rt rb rl ls la lt lb ll hB h g d ss sa st sb sl k1
  by_cases k2 : K = 2
  · exact plays_Scalar hb gb B K N I so sn sc ao an ac uo tn tc bo bn bc lo ln lc s a t b l go0 go1 ho0 ho1 n0 n1 m0 m1 w rs ra rt rb rl ls la lt lb ll hB h g d ss sa st sb sl hN1 hN2 k2
  by_cases k3 : K = 3
  · exact plays_List hb gb B K N I so sn sc ao an ac uo tn tc bo bn bc lo ln lc s a t b l go0 go1 ho0 ho1 n0 n1 m0 m1 w rs ra rt rb rl ls la lt lb ll hB h g d ss sa st sb sl k3
  by_cases k4 : K = 4
  · exact plays_Fill hb gb B K N I so sn sc ao an ac uo tn tc bo bn bc lo ln lc s a t b l go0 go1 ho0 ho1 n0 n1 m0 m1 w rs ra rt rb rl ls la lt lb ll hB h g d ss sa st sb sl hN1 hN2 k4
  by_cases k5 : K = 5
  · exact plays_Same hb gb B K N I so sn sc ao an ac uo tn tc bo bn bc lo ln lc s a t b l go0 go1 ho0 ho1 n0 n1 m0 m1 w rs ra rt rb rl ls la lt lb ll hB h g d ss sa st sb sl k5
  by_cases k6 : K = 6
  · exact plays_Items hb gb B K N I so sn sc ao an ac uo tn tc bo bn bc lo ln lc s a t b l go0 go1 ho0 ho1 n0 n1 m0 m1 w rs ra rt rb rl ls la lt lb ll hB h g d ss sa st sb sl k6
  by_cases k7 : K = 7
  · exact plays_Item hb gb B K N I so sn sc ao an ac uo tn tc bo bn bc lo ln lc s a t b l go0 go1 ho0 ho1 n0 n1 m0 m1 w rs ra rt rb rl ls la lt lb ll hB h g d ss sa st sb sl hI1 hI2 k7
  by_cases k8 : K = 8
  · exact plays_Compare hb gb B K N I so sn sc ao an ac uo tn tc bo bn bc lo ln lc s a t b l go0 go1 ho0 ho1 n0 n1 m0 m1 w rs ra rt rb rl ls la lt lb ll hB h g d ss sa st sb sl k8
  exact plays_other hb gb B K N I so sn sc ao an ac uo tn tc bo bn bc lo ln lc s a t b l go0 go1 ho0 ho1 n0 n1 m0 m1 w rs ra rt rb rl ls la lt lb ll hB h g d ss sa st sb sl (by omega)
end Go.Proofs.Ytkplfnajhinkiaa
