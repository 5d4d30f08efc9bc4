
/- SeekNub: the law, whatever is handed in. -/

import Derived.Test.YtlncjmeabonpfaaYNs
import Derived.Test.YtlncjmeabonpfaaYNg
import Derived.Test.YtlncjmeabonpfaaYNn



namespace Go.Proofs.Ytlncjmeabonpfaa

open Go.RowKit

set_option linter.unusedVariables false

theorem seekNub_walk (so ao : Option Addr) (sn sc an ac : Nat) (sh at' : List Int) (w : World) (h : Rd w so sn sh) (hs : Sl so sn sc) (g : Rd w ao an at') (gs : Sl ao an ac) :
    Calls Try.prog 4 #[.agg #[.slice so sn sc, .slice ao an ac]] w fun e w' => e = .returned (.bool true) ∧ Below w.heap.size w w' := by
  by_cases mx : mayA sh at' = 0
  · by_cases hb : 4096 < (nbP sh at').length * itN sh
    · have hm0 : 0 < (nbP sh at').length := by
        rcases Nat.eq_zero_or_pos (nbP sh at').length with e | e
        · rw [e, Nat.zero_mul] at hb; omega
        · exact e
      exact nub_big so sn sc ao an ac sh at' w h hs g gs mx hm0 hb
    · by_cases hm0 : 0 < (nbP sh at').length
      · exact nub_small so sn sc ao an ac sh at' w h hs g gs mx hm0 hb
      · exact nub_none so sn sc ao an ac sh at' w h hs g gs mx (by omega) hb
  · exact nub_bad so sn sc ao an ac sh at' w h hs g gs mx
end Go.Proofs.Ytlncjmeabonpfaa
