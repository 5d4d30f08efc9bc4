
/- SeekFrom: the law, whatever is handed in. -/

import Derived.Test.YtlncjmeabonpfaaYRr
import Derived.Test.YtlncjmeabonpfaaYRf
import Derived.Test.YtlncjmeabonpfaaYRn



namespace Go.Proofs.Ytlncjmeabonpfaa

open Go.RowKit

set_option linter.unusedVariables false

theorem seekFrom_walk (so ao uo bo : Option Addr) (sn sc an ac un uc bn bc : Nat) (sh at' th bt' : List Int) (w : World) (h : Rd w so sn sh) (hs : Sl so sn sc) (g : Rd w ao an at') (gs : Sl ao an ac) (h2 : Rd w uo un th) (hs2 : Sl uo un uc) (g2 : Rd w bo bn bt') (gs2 : Sl bo bn bc) :
    Calls Try.prog 6 #[.agg #[.slice so sn sc, .slice ao an ac], .agg #[.slice uo un uc, .slice bo bn bc]] w fun e w' => e = .returned (.bool true) ∧ Below w.heap.size w w' := by
  by_cases mx : mayA sh at' = 0
  · by_cases my : mayA th bt' = 0
    · by_cases hk : sn = 0
      · subst hk
        by_cases hf : nth at' 0 < -4096 ∨ 4096 < nth at' 0
        · exact from_far so sc ao an ac uo un uc bo bn bc sh at' th bt' w h hs g gs h2 hs2 g2 gs2 mx my _ rfl hf
        · exact from_near so sc ao an ac uo un uc bo bn bc sh at' th bt' w h hs g gs h2 hs2 g2 gs2 mx my _ rfl (by omega) (by omega)
      · exact from_rank so sn sc ao an ac uo un uc bo bn bc sh at' th bt' w h hs g gs h2 hs2 g2 gs2 mx my (by omega)
    · exact from_bady so sn sc ao an ac uo un uc bo bn bc sh at' th bt' w h hs g gs h2 hs2 g2 gs2 mx my
  · exact from_badx so sn sc ao an ac uo un uc bo bn bc sh at' th bt' w h hs g gs h2 hs2 g2 gs2 mx
end Go.Proofs.Ytlncjmeabonpfaa
