
/- ShowBack: the law itself. -/

import Derived.Test.YtppcfpiihkaopaaGreatDoorVR

namespace Go.Proofs.YtppcfpiihkaopaaGreatDoor

open Go.RowKit

set_option linter.unusedVariables false

/-- What Flat answers. -/
def flT (S A : List Int) : List UInt8 := if mayA S A = 0 then fl S A else []
def flE (S A : List Int) : Int := if mayA S A = 0 then 0 else 1
theorem flat_any (so ao : Option Addr) (sn sc an ac : Nat) (S A : List Int) (w : World) (h : Rd w so sn S) (g : Rd w ao an A) (T : Tb w) :
    Calls Tryz.prog 9 #[.agg #[.slice so sn sc, .slice ao an ac]] w fun e w' => e = .returned (.tuple #[.string ⟨(flT S A).toArray⟩, .int .i64 (flE S A)]) ∧ Below w.heap.size w w' := by
  by_cases hm : mayA S A = 0
  · rw [show flT S A = fl S A from if_pos hm, show flE S A = 0 from if_pos hm]
    exact flat_ok so ao sn sc an ac S A w h g hm T
  · rw [show flT S A = [] from if_neg hm, show flE S A = 1 from if_neg hm]
    exact flat_no so ao sn sc an ac S A w h g hm
end Go.Proofs.YtppcfpiihkaopaaGreatDoor
