
/- Two arrays that are the same are told to be, by the law's own Eq. -/

import Derived.Test.YtlajainnpnbcaaaA3

namespace Go.Proofs.Ytlajainnpnbcaaa

open Go.RowKit

set_option linter.unusedVariables false

theorem eq_same (W : World) (so ao to bo : Option Addr) (sn sc an ac tn tc bn bc : Nat) (s a : List Int) (hs : Rd W so sn s) (ha : Rd W ao an a) (ht : Rd W to tn s) (hb : Rd W bo bn a) :
    Calls Try.prog 10 #[.agg #[.slice so sn sc, .slice ao an ac], .agg #[.slice to tn tc, .slice bo bn bc]] W fun e w' => e = .returned (.bool true) ∧ Below W.heap.size W w' :=
  (eq_any so ao to bo sn sc an ac tn tc bn bc s a s a W hs ha ht hb).mono fun e w' ⟨h1, h2⟩ => ⟨by rw [h1, eqA_refl], h2⟩
end Go.Proofs.Ytlajainnpnbcaaa
