
/- SeekOrder: the law, whatever is handed in. -/

import Derived.Test.YtlncjmeabonpfaaYW

namespace Go.Proofs.Ytlncjmeabonpfaa

open Go.RowKit

set_option linter.unusedVariables false

theorem seekOrder_walk (so ao : Option Addr) (sn sc an ac : Nat) (sh at' : List Int) (w : World) (h : Rd w so sn sh) (hs : Sl so sn sc) (g : Rd w ao an at') (gs : Sl ao an ac) :
    Calls Try.prog 3 #[.agg #[.slice so sn sc, .slice ao an ac]] w fun e w' => e = .returned (.bool true) ∧ Below w.heap.size w w' := by
  by_cases mx : mayA sh at' = 0
  · exact order_walk so sn sc ao an ac sh at' w h hs g gs mx
  · exact order_bad so sn sc ao an ac sh at' w h hs g gs mx
end Go.Proofs.Ytlncjmeabonpfaa
