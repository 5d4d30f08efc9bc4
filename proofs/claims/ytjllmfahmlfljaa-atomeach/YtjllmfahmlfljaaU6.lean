
/- The statement AtomEach, walked. -/

import Derived.Test.YtjllmfahmlfljaaU3
import Derived.Test.YtjllmfahmlfljaaU4
import Derived.Test.YtjllmfahmlfljaaU5



namespace Go.Proofs.Ytjllmfahmlfljaa

open Go.RowKit

theorem each_walk (op : Int) (so ao to bo : Option Addr) (sn sc an ac tn tc bn bc : Nat) (sx ax sy ay : List Int) (w : World) (h1 : Rd w so sn sx) (h2 : Rd w ao an ax) (h3 : Rd w to tn sy) (h4 : Rd w bo bn ay) (hs : Sl so sn sc) (ht : Sl to tn tc) :
    Calls Try.prog 7 #[.int .i64 op, .agg #[.slice so sn sc, .slice ao an ac], .agg #[.slice to tn tc, .slice bo bn bc]] w fun e w' => e = .returned (.bool true) ∧ Below w.heap.size w w' := by
  by_cases m1 : mayA sy ay = 0
  · cases c1 : hasB op 1
    · exact each_lack op so ao to bo sn sc an ac tn tc bn bc sx ax sy ay w h1 h2 h3 h4 hs ht m1 c1
    · by_cases hR : fe (ay.map (Nm.mE op)) = 0
      · exact each_ok op so ao to bo sn sc an ac tn tc bn bc sx ax sy ay w h1 h2 h3 h4 hs ht m1 c1 hR
      · exact each_err op so ao to bo sn sc an ac tn tc bn bc sx ax sy ay w h1 h2 h3 h4 hs ht m1 c1 hR
  · exact each_my op so ao to bo sn sc an ac tn tc bn bc sx ax sy ay w h1 h2 h3 h4 hs ht m1
end Go.Proofs.Ytjllmfahmlfljaa
