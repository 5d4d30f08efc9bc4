
/- How much is handed in: the bound on the calls. -/

import Derived.Test.YtppcfpiihkaopaaGreatDoorHand2

namespace Go.Proofs.YtppcfpiihkaopaaGreatDoor

open Go.RowKit

set_option linter.unusedVariables false

theorem over_any (wb : Nat) (x n : Int) (w : World) (hc : w.cell? ⟨wb, 0, none⟩ = some (.int .i64 x)) (hz : w.frozen? ⟨wb, 0, none⟩ = false) (h1 : 0 ≤ x) (h2 : x ≤ 4194304) (h3 : 0 ≤ n) (h4 : n ≤ 1000000000000000) :
    Calls Tryz.prog 5 #[.pointer (some ⟨wb, 0, none⟩), .int .i64 n] w fun e w' => e = .returned (.bool (decide (4194304 < x + 100 + n))) ∧ w' = w.setCell ⟨wb, 0, none⟩ (.int .i64 (x + 100 + n)) := by
  have hc1 : (w.setCell ⟨wb, 0, none⟩ (.int .i64 (x + 100 + n))).cell? ⟨wb, 0, none⟩ = some (.int .i64 (x + 100 + n)) := World.cell?_setCell_same' _ _ _ (by rw [hc]; rfl)
  go_enter Tryz.func5, Tryz.ntmps5
  go_wp2
  go_ret
  exact ⟨rfl, rfl⟩

end Go.Proofs.YtppcfpiihkaopaaGreatDoor
