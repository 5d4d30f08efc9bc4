
/- SeekFound: the law, whatever is handed in. -/

import Derived.Test.YtlncjmeabonpfaaYZ

namespace Go.Proofs.Ytlncjmeabonpfaa

open Go.RowKit

set_option linter.unusedVariables false

theorem seekFound_walk (so ao uo bo : Option Addr) (sn sc an ac un uc bn bc : Nat) (sh at' th bt' : List Int) (w : World) (h : Rd w so sn sh) (hs : Sl so sn sc) (g : Rd w ao an at') (gs : Sl ao an ac) (h2 : Rd w uo un th) (hs2 : Sl uo un uc) (g2 : Rd w bo bn bt') (gs2 : Sl bo bn bc) :
    Calls Try.prog 5 #[.agg #[.slice so sn sc, .slice ao an ac], .agg #[.slice uo un uc, .slice bo bn bc]] w fun e w' => e = .returned (.bool true) ∧ Below w.heap.size w w' := by
  by_cases mx : mayA sh at' = 0
  · by_cases my : mayA th bt' = 0
    · by_cases hk : sn = 0
      · exact found_r0 so sn sc ao an ac uo un uc bo bn bc sh at' th bt' w h hs g gs h2 hs2 g2 gs2 mx my hk
      · by_cases hne : sn = un
        · exact found_go so sn sc ao an ac uo un uc bo bn bc sh at' th bt' w h hs g gs h2 hs2 g2 gs2 mx my hk hne
        · exact found_rn so sn sc ao an ac uo un uc bo bn bc sh at' th bt' w h hs g gs h2 hs2 g2 gs2 mx my hk hne
    · exact found_yb so sn sc ao an ac uo un uc bo bn bc sh at' th bt' w h hs g gs h2 hs2 g2 gs2 mx my
  · exact found_xb so sn sc ao an ac uo un uc bo bn bc sh at' th bt' w h hs g gs h2 hs2 g2 gs2 mx
end Go.Proofs.Ytlncjmeabonpfaa
