
/- PrimTable: the document's Info, op by op. -/

import Derived.Test.YtelcagfaflpolaaGreatPC
import Derived.Test.YtelcagfaflpolaaGreatPV

namespace Go.Proofs.YtelcagfaflpolaaGreat

open Go.RowKit

set_option linter.unusedVariables false

theorem owner1_36 (w : World) : Calls Tryz.prog 28 #[.int .i64 36, .int .i64 1] w fun e w' => e = .returned (.int .i64 7) ∧ w' = w := by
  go_enter Tryz.func28, Tryz.ntmps28
  go_wp2_with (go_in)
  go_ret
  exact ⟨rfl, rfl⟩
theorem owner2_36 (w : World) : Calls Tryz.prog 28 #[.int .i64 36, .int .i64 2] w fun e w' => e = .returned (.int .i64 0) ∧ w' = w := by
  go_enter Tryz.func28, Tryz.ntmps28
  go_wp2_with (go_in)
  go_ret
  exact ⟨rfl, rfl⟩
theorem commutes_36 (w : World) : Calls Tryz.prog 30 #[.int .i64 36] w fun e w' => e = .returned (.bool false) ∧ w' = w := by
  go_enter Tryz.func30, Tryz.ntmps30
  go_wp2_with (go_in)
  go_ret
  exact ⟨rfl, rfl⟩
theorem identity_36 (w : World) : Calls Tryz.prog 31 #[.int .i64 36] w fun e w' => e = .returned (.tuple #[.int .i64 0, .bool false]) ∧ w' = w := by
  go_enter Tryz.func31, Tryz.ntmps31
  go_wp2_with (go_in)
  go_ret2
  exact ⟨rfl, rfl⟩
theorem ranks_36 (w : World) : Calls Tryz.prog 29 #[.int .i64 36] w fun e w' => e = .returned (.agg #[.int .i64 64, .int .i64 64, .int .i64 64]) ∧ w' = w.alloc (.cells #[.int .i64 64, .int .i64 64, .int .i64 64] 25) := by
  go_enter Tryz.func29, Tryz.ntmps29
  go_wp2
  go_returns
  exact ⟨rfl, rfl⟩
theorem owner1_37 (w : World) : Calls Tryz.prog 28 #[.int .i64 37, .int .i64 1] w fun e w' => e = .returned (.int .i64 7) ∧ w' = w := by
  go_enter Tryz.func28, Tryz.ntmps28
  go_wp2_with (go_in)
  go_ret
  exact ⟨rfl, rfl⟩
theorem owner2_37 (w : World) : Calls Tryz.prog 28 #[.int .i64 37, .int .i64 2] w fun e w' => e = .returned (.int .i64 7) ∧ w' = w := by
  go_enter Tryz.func28, Tryz.ntmps28
  go_wp2_with (go_in)
  go_ret
  exact ⟨rfl, rfl⟩
theorem commutes_37 (w : World) : Calls Tryz.prog 30 #[.int .i64 37] w fun e w' => e = .returned (.bool false) ∧ w' = w := by
  go_enter Tryz.func30, Tryz.ntmps30
  go_wp2_with (go_in)
  go_ret
  exact ⟨rfl, rfl⟩
theorem identity_37 (w : World) : Calls Tryz.prog 31 #[.int .i64 37] w fun e w' => e = .returned (.tuple #[.int .i64 0, .bool false]) ∧ w' = w := by
  go_enter Tryz.func31, Tryz.ntmps31
  go_wp2_with (go_in)
  go_ret2
  exact ⟨rfl, rfl⟩
theorem ranks_37 (w : World) : Calls Tryz.prog 29 #[.int .i64 37] w fun e w' => e = .returned (.agg #[.int .i64 64, .int .i64 64, .int .i64 64]) ∧ w' = w.alloc (.cells #[.int .i64 64, .int .i64 64, .int .i64 64] 25) := by
  go_enter Tryz.func29, Tryz.ntmps29
  go_wp2
  go_returns
  exact ⟨rfl, rfl⟩
theorem owner1_38 (w : World) : Calls Tryz.prog 28 #[.int .i64 38, .int .i64 1] w fun e w' => e = .returned (.int .i64 7) ∧ w' = w := by
  go_enter Tryz.func28, Tryz.ntmps28
  go_wp2_with (go_in)
  go_ret
  exact ⟨rfl, rfl⟩
theorem owner2_38 (w : World) : Calls Tryz.prog 28 #[.int .i64 38, .int .i64 2] w fun e w' => e = .returned (.int .i64 7) ∧ w' = w := by
  go_enter Tryz.func28, Tryz.ntmps28
  go_wp2_with (go_in)
  go_ret
  exact ⟨rfl, rfl⟩
theorem commutes_38 (w : World) : Calls Tryz.prog 30 #[.int .i64 38] w fun e w' => e = .returned (.bool false) ∧ w' = w := by
  go_enter Tryz.func30, Tryz.ntmps30
  go_wp2_with (go_in)
  go_ret
  exact ⟨rfl, rfl⟩
theorem identity_38 (w : World) : Calls Tryz.prog 31 #[.int .i64 38] w fun e w' => e = .returned (.tuple #[.int .i64 0, .bool false]) ∧ w' = w := by
  go_enter Tryz.func31, Tryz.ntmps31
  go_wp2_with (go_in)
  go_ret2
  exact ⟨rfl, rfl⟩
theorem ranks_38 (w : World) : Calls Tryz.prog 29 #[.int .i64 38] w fun e w' => e = .returned (.agg #[.int .i64 64, .int .i64 64, .int .i64 64]) ∧ w' = w.alloc (.cells #[.int .i64 64, .int .i64 64, .int .i64 64] 25) := by
  go_enter Tryz.func29, Tryz.ntmps29
  go_wp2
  go_returns
  exact ⟨rfl, rfl⟩
theorem owner1_39 (w : World) : Calls Tryz.prog 28 #[.int .i64 39, .int .i64 1] w fun e w' => e = .returned (.int .i64 8) ∧ w' = w := by
  go_enter Tryz.func28, Tryz.ntmps28
  go_wp2_with (go_in)
  go_ret
  exact ⟨rfl, rfl⟩
theorem owner2_39 (w : World) : Calls Tryz.prog 28 #[.int .i64 39, .int .i64 2] w fun e w' => e = .returned (.int .i64 8) ∧ w' = w := by
  go_enter Tryz.func28, Tryz.ntmps28
  go_wp2_with (go_in)
  go_ret
  exact ⟨rfl, rfl⟩
theorem commutes_39 (w : World) : Calls Tryz.prog 30 #[.int .i64 39] w fun e w' => e = .returned (.bool false) ∧ w' = w := by
  go_enter Tryz.func30, Tryz.ntmps30
  go_wp2_with (go_in)
  go_ret
  exact ⟨rfl, rfl⟩
theorem identity_39 (w : World) : Calls Tryz.prog 31 #[.int .i64 39] w fun e w' => e = .returned (.tuple #[.int .i64 0, .bool false]) ∧ w' = w := by
  go_enter Tryz.func31, Tryz.ntmps31
  go_wp2_with (go_in)
  go_ret2
  exact ⟨rfl, rfl⟩
theorem ranks_39 (w : World) : Calls Tryz.prog 29 #[.int .i64 39] w fun e w' => e = .returned (.agg #[.int .i64 1, .int .i64 1, .int .i64 1]) ∧ w' = w.alloc (.cells #[.int .i64 1, .int .i64 1, .int .i64 1] 25) := by
  go_enter Tryz.func29, Tryz.ntmps29
  go_wp2
  go_returns
  exact ⟨rfl, rfl⟩
theorem owner1_40 (w : World) : Calls Tryz.prog 28 #[.int .i64 40, .int .i64 1] w fun e w' => e = .returned (.int .i64 8) ∧ w' = w := by
  go_enter Tryz.func28, Tryz.ntmps28
  go_wp2_with (go_in)
  go_ret
  exact ⟨rfl, rfl⟩
theorem owner2_40 (w : World) : Calls Tryz.prog 28 #[.int .i64 40, .int .i64 2] w fun e w' => e = .returned (.int .i64 8) ∧ w' = w := by
  go_enter Tryz.func28, Tryz.ntmps28
  go_wp2_with (go_in)
  go_ret
  exact ⟨rfl, rfl⟩
theorem commutes_40 (w : World) : Calls Tryz.prog 30 #[.int .i64 40] w fun e w' => e = .returned (.bool false) ∧ w' = w := by
  go_enter Tryz.func30, Tryz.ntmps30
  go_wp2_with (go_in)
  go_ret
  exact ⟨rfl, rfl⟩
theorem identity_40 (w : World) : Calls Tryz.prog 31 #[.int .i64 40] w fun e w' => e = .returned (.tuple #[.int .i64 0, .bool false]) ∧ w' = w := by
  go_enter Tryz.func31, Tryz.ntmps31
  go_wp2_with (go_in)
  go_ret2
  exact ⟨rfl, rfl⟩
theorem ranks_40 (w : World) : Calls Tryz.prog 29 #[.int .i64 40] w fun e w' => e = .returned (.agg #[.int .i64 64, .int .i64 1, .int .i64 0]) ∧ w' = w.alloc (.cells #[.int .i64 64, .int .i64 1, .int .i64 0] 25) := by
  go_enter Tryz.func29, Tryz.ntmps29
  go_wp2
  go_returns
  exact ⟨rfl, rfl⟩
theorem owner1_41 (w : World) : Calls Tryz.prog 28 #[.int .i64 41, .int .i64 1] w fun e w' => e = .returned (.int .i64 6) ∧ w' = w := by
  go_enter Tryz.func28, Tryz.ntmps28
  go_wp2_with (go_in)
  go_ret
  exact ⟨rfl, rfl⟩
theorem owner2_41 (w : World) : Calls Tryz.prog 28 #[.int .i64 41, .int .i64 2] w fun e w' => e = .returned (.int .i64 6) ∧ w' = w := by
  go_enter Tryz.func28, Tryz.ntmps28
  go_wp2_with (go_in)
  go_ret
  exact ⟨rfl, rfl⟩
theorem commutes_41 (w : World) : Calls Tryz.prog 30 #[.int .i64 41] w fun e w' => e = .returned (.bool false) ∧ w' = w := by
  go_enter Tryz.func30, Tryz.ntmps30
  go_wp2_with (go_in)
  go_ret
  exact ⟨rfl, rfl⟩
theorem identity_41 (w : World) : Calls Tryz.prog 31 #[.int .i64 41] w fun e w' => e = .returned (.tuple #[.int .i64 0, .bool false]) ∧ w' = w := by
  go_enter Tryz.func31, Tryz.ntmps31
  go_wp2_with (go_in)
  go_ret2
  exact ⟨rfl, rfl⟩
theorem ranks_41 (w : World) : Calls Tryz.prog 29 #[.int .i64 41] w fun e w' => e = .returned (.agg #[.int .i64 64, .int .i64 64, .int .i64 64]) ∧ w' = w.alloc (.cells #[.int .i64 64, .int .i64 64, .int .i64 64] 25) := by
  go_enter Tryz.func29, Tryz.ntmps29
  go_wp2
  go_returns
  exact ⟨rfl, rfl⟩
theorem owner1_42 (w : World) : Calls Tryz.prog 28 #[.int .i64 42, .int .i64 1] w fun e w' => e = .returned (.int .i64 6) ∧ w' = w := by
  go_enter Tryz.func28, Tryz.ntmps28
  go_wp2_with (go_in)
  go_ret
  exact ⟨rfl, rfl⟩
theorem owner2_42 (w : World) : Calls Tryz.prog 28 #[.int .i64 42, .int .i64 2] w fun e w' => e = .returned (.int .i64 6) ∧ w' = w := by
  go_enter Tryz.func28, Tryz.ntmps28
  go_wp2_with (go_in)
  go_ret
  exact ⟨rfl, rfl⟩
theorem commutes_42 (w : World) : Calls Tryz.prog 30 #[.int .i64 42] w fun e w' => e = .returned (.bool false) ∧ w' = w := by
  go_enter Tryz.func30, Tryz.ntmps30
  go_wp2_with (go_in)
  go_ret
  exact ⟨rfl, rfl⟩
theorem identity_42 (w : World) : Calls Tryz.prog 31 #[.int .i64 42] w fun e w' => e = .returned (.tuple #[.int .i64 0, .bool false]) ∧ w' = w := by
  go_enter Tryz.func31, Tryz.ntmps31
  go_wp2_with (go_in)
  go_ret2
  exact ⟨rfl, rfl⟩
theorem ranks_42 (w : World) : Calls Tryz.prog 29 #[.int .i64 42] w fun e w' => e = .returned (.agg #[.int .i64 64, .int .i64 64, .int .i64 64]) ∧ w' = w.alloc (.cells #[.int .i64 64, .int .i64 64, .int .i64 64] 25) := by
  go_enter Tryz.func29, Tryz.ntmps29
  go_wp2
  go_returns
  exact ⟨rfl, rfl⟩
theorem owner1_43 (w : World) : Calls Tryz.prog 28 #[.int .i64 43, .int .i64 1] w fun e w' => e = .returned (.int .i64 8) ∧ w' = w := by
  go_enter Tryz.func28, Tryz.ntmps28
  go_wp2_with (go_in)
  go_ret
  exact ⟨rfl, rfl⟩
theorem owner2_43 (w : World) : Calls Tryz.prog 28 #[.int .i64 43, .int .i64 2] w fun e w' => e = .returned (.int .i64 0) ∧ w' = w := by
  go_enter Tryz.func28, Tryz.ntmps28
  go_wp2_with (go_in)
  go_ret
  exact ⟨rfl, rfl⟩
theorem commutes_43 (w : World) : Calls Tryz.prog 30 #[.int .i64 43] w fun e w' => e = .returned (.bool false) ∧ w' = w := by
  go_enter Tryz.func30, Tryz.ntmps30
  go_wp2_with (go_in)
  go_ret
  exact ⟨rfl, rfl⟩
theorem identity_43 (w : World) : Calls Tryz.prog 31 #[.int .i64 43] w fun e w' => e = .returned (.tuple #[.int .i64 0, .bool false]) ∧ w' = w := by
  go_enter Tryz.func31, Tryz.ntmps31
  go_wp2_with (go_in)
  go_ret2
  exact ⟨rfl, rfl⟩
theorem ranks_43 (w : World) : Calls Tryz.prog 29 #[.int .i64 43] w fun e w' => e = .returned (.agg #[.int .i64 1, .int .i64 64, .int .i64 64]) ∧ w' = w.alloc (.cells #[.int .i64 1, .int .i64 64, .int .i64 64] 25) := by
  go_enter Tryz.func29, Tryz.ntmps29
  go_wp2
  go_returns
  exact ⟨rfl, rfl⟩
end Go.Proofs.YtelcagfaflpolaaGreat


namespace Go.Proofs.YtelcagfaflpolaaGreat

open Go.RowKit

set_option linter.unusedVariables false

theorem owner1_28 (w : World) : Calls Tryz.prog 28 #[.int .i64 28, .int .i64 1] w fun e w' => e = .returned (.int .i64 6) ∧ w' = w := by
  go_enter Tryz.func28, Tryz.ntmps28
  go_wp2_with (go_in)
  go_ret
  exact ⟨rfl, rfl⟩
theorem owner2_28 (w : World) : Calls Tryz.prog 28 #[.int .i64 28, .int .i64 2] w fun e w' => e = .returned (.int .i64 6) ∧ w' = w := by
  go_enter Tryz.func28, Tryz.ntmps28
  go_wp2_with (go_in)
  go_ret
  exact ⟨rfl, rfl⟩
theorem commutes_28 (w : World) : Calls Tryz.prog 30 #[.int .i64 28] w fun e w' => e = .returned (.bool false) ∧ w' = w := by
  go_enter Tryz.func30, Tryz.ntmps30
  go_wp2_with (go_in)
  go_ret
  exact ⟨rfl, rfl⟩
theorem identity_28 (w : World) : Calls Tryz.prog 31 #[.int .i64 28] w fun e w' => e = .returned (.tuple #[.int .i64 0, .bool false]) ∧ w' = w := by
  go_enter Tryz.func31, Tryz.ntmps31
  go_wp2_with (go_in)
  go_ret2
  exact ⟨rfl, rfl⟩
theorem ranks_28 (w : World) : Calls Tryz.prog 29 #[.int .i64 28] w fun e w' => e = .returned (.agg #[.int .i64 64, .int .i64 1, .int .i64 64]) ∧ w' = w.alloc (.cells #[.int .i64 64, .int .i64 1, .int .i64 64] 25) := by
  go_enter Tryz.func29, Tryz.ntmps29
  go_wp2
  go_returns
  exact ⟨rfl, rfl⟩
theorem owner1_29 (w : World) : Calls Tryz.prog 28 #[.int .i64 29, .int .i64 1] w fun e w' => e = .returned (.int .i64 6) ∧ w' = w := by
  go_enter Tryz.func28, Tryz.ntmps28
  go_wp2_with (go_in)
  go_ret
  exact ⟨rfl, rfl⟩
theorem owner2_29 (w : World) : Calls Tryz.prog 28 #[.int .i64 29, .int .i64 2] w fun e w' => e = .returned (.int .i64 6) ∧ w' = w := by
  go_enter Tryz.func28, Tryz.ntmps28
  go_wp2_with (go_in)
  go_ret
  exact ⟨rfl, rfl⟩
theorem commutes_29 (w : World) : Calls Tryz.prog 30 #[.int .i64 29] w fun e w' => e = .returned (.bool false) ∧ w' = w := by
  go_enter Tryz.func30, Tryz.ntmps30
  go_wp2_with (go_in)
  go_ret
  exact ⟨rfl, rfl⟩
theorem identity_29 (w : World) : Calls Tryz.prog 31 #[.int .i64 29] w fun e w' => e = .returned (.tuple #[.int .i64 0, .bool false]) ∧ w' = w := by
  go_enter Tryz.func31, Tryz.ntmps31
  go_wp2_with (go_in)
  go_ret2
  exact ⟨rfl, rfl⟩
theorem ranks_29 (w : World) : Calls Tryz.prog 29 #[.int .i64 29] w fun e w' => e = .returned (.agg #[.int .i64 64, .int .i64 1, .int .i64 64]) ∧ w' = w.alloc (.cells #[.int .i64 64, .int .i64 1, .int .i64 64] 25) := by
  go_enter Tryz.func29, Tryz.ntmps29
  go_wp2
  go_returns
  exact ⟨rfl, rfl⟩
theorem owner1_30 (w : World) : Calls Tryz.prog 28 #[.int .i64 30, .int .i64 1] w fun e w' => e = .returned (.int .i64 6) ∧ w' = w := by
  go_enter Tryz.func28, Tryz.ntmps28
  go_wp2_with (go_in)
  go_ret
  exact ⟨rfl, rfl⟩
theorem owner2_30 (w : World) : Calls Tryz.prog 28 #[.int .i64 30, .int .i64 2] w fun e w' => e = .returned (.int .i64 0) ∧ w' = w := by
  go_enter Tryz.func28, Tryz.ntmps28
  go_wp2_with (go_in)
  go_ret
  exact ⟨rfl, rfl⟩
theorem commutes_30 (w : World) : Calls Tryz.prog 30 #[.int .i64 30] w fun e w' => e = .returned (.bool false) ∧ w' = w := by
  go_enter Tryz.func30, Tryz.ntmps30
  go_wp2_with (go_in)
  go_ret
  exact ⟨rfl, rfl⟩
theorem identity_30 (w : World) : Calls Tryz.prog 31 #[.int .i64 30] w fun e w' => e = .returned (.tuple #[.int .i64 0, .bool false]) ∧ w' = w := by
  go_enter Tryz.func31, Tryz.ntmps31
  go_wp2_with (go_in)
  go_ret2
  exact ⟨rfl, rfl⟩
theorem ranks_30 (w : World) : Calls Tryz.prog 29 #[.int .i64 30] w fun e w' => e = .returned (.agg #[.int .i64 64, .int .i64 64, .int .i64 64]) ∧ w' = w.alloc (.cells #[.int .i64 64, .int .i64 64, .int .i64 64] 25) := by
  go_enter Tryz.func29, Tryz.ntmps29
  go_wp2
  go_returns
  exact ⟨rfl, rfl⟩
theorem owner1_31 (w : World) : Calls Tryz.prog 28 #[.int .i64 31, .int .i64 1] w fun e w' => e = .returned (.int .i64 6) ∧ w' = w := by
  go_enter Tryz.func28, Tryz.ntmps28
  go_wp2_with (go_in)
  go_ret
  exact ⟨rfl, rfl⟩
theorem owner2_31 (w : World) : Calls Tryz.prog 28 #[.int .i64 31, .int .i64 2] w fun e w' => e = .returned (.int .i64 0) ∧ w' = w := by
  go_enter Tryz.func28, Tryz.ntmps28
  go_wp2_with (go_in)
  go_ret
  exact ⟨rfl, rfl⟩
theorem commutes_31 (w : World) : Calls Tryz.prog 30 #[.int .i64 31] w fun e w' => e = .returned (.bool false) ∧ w' = w := by
  go_enter Tryz.func30, Tryz.ntmps30
  go_wp2_with (go_in)
  go_ret
  exact ⟨rfl, rfl⟩
theorem identity_31 (w : World) : Calls Tryz.prog 31 #[.int .i64 31] w fun e w' => e = .returned (.tuple #[.int .i64 0, .bool false]) ∧ w' = w := by
  go_enter Tryz.func31, Tryz.ntmps31
  go_wp2_with (go_in)
  go_ret2
  exact ⟨rfl, rfl⟩
theorem ranks_31 (w : World) : Calls Tryz.prog 29 #[.int .i64 31] w fun e w' => e = .returned (.agg #[.int .i64 64, .int .i64 64, .int .i64 64]) ∧ w' = w.alloc (.cells #[.int .i64 64, .int .i64 64, .int .i64 64] 25) := by
  go_enter Tryz.func29, Tryz.ntmps29
  go_wp2
  go_returns
  exact ⟨rfl, rfl⟩
theorem owner1_32 (w : World) : Calls Tryz.prog 28 #[.int .i64 32, .int .i64 1] w fun e w' => e = .returned (.int .i64 6) ∧ w' = w := by
  go_enter Tryz.func28, Tryz.ntmps28
  go_wp2_with (go_in)
  go_ret
  exact ⟨rfl, rfl⟩
theorem owner2_32 (w : World) : Calls Tryz.prog 28 #[.int .i64 32, .int .i64 2] w fun e w' => e = .returned (.int .i64 6) ∧ w' = w := by
  go_enter Tryz.func28, Tryz.ntmps28
  go_wp2_with (go_in)
  go_ret
  exact ⟨rfl, rfl⟩
theorem commutes_32 (w : World) : Calls Tryz.prog 30 #[.int .i64 32] w fun e w' => e = .returned (.bool false) ∧ w' = w := by
  go_enter Tryz.func30, Tryz.ntmps30
  go_wp2_with (go_in)
  go_ret
  exact ⟨rfl, rfl⟩
theorem identity_32 (w : World) : Calls Tryz.prog 31 #[.int .i64 32] w fun e w' => e = .returned (.tuple #[.int .i64 0, .bool false]) ∧ w' = w := by
  go_enter Tryz.func31, Tryz.ntmps31
  go_wp2_with (go_in)
  go_ret2
  exact ⟨rfl, rfl⟩
theorem ranks_32 (w : World) : Calls Tryz.prog 29 #[.int .i64 32] w fun e w' => e = .returned (.agg #[.int .i64 64, .int .i64 1, .int .i64 64]) ∧ w' = w.alloc (.cells #[.int .i64 64, .int .i64 1, .int .i64 64] 25) := by
  go_enter Tryz.func29, Tryz.ntmps29
  go_wp2
  go_returns
  exact ⟨rfl, rfl⟩
theorem owner1_33 (w : World) : Calls Tryz.prog 28 #[.int .i64 33, .int .i64 1] w fun e w' => e = .returned (.int .i64 6) ∧ w' = w := by
  go_enter Tryz.func28, Tryz.ntmps28
  go_wp2_with (go_in)
  go_ret
  exact ⟨rfl, rfl⟩
theorem owner2_33 (w : World) : Calls Tryz.prog 28 #[.int .i64 33, .int .i64 2] w fun e w' => e = .returned (.int .i64 6) ∧ w' = w := by
  go_enter Tryz.func28, Tryz.ntmps28
  go_wp2_with (go_in)
  go_ret
  exact ⟨rfl, rfl⟩
theorem commutes_33 (w : World) : Calls Tryz.prog 30 #[.int .i64 33] w fun e w' => e = .returned (.bool false) ∧ w' = w := by
  go_enter Tryz.func30, Tryz.ntmps30
  go_wp2_with (go_in)
  go_ret
  exact ⟨rfl, rfl⟩
theorem identity_33 (w : World) : Calls Tryz.prog 31 #[.int .i64 33] w fun e w' => e = .returned (.tuple #[.int .i64 0, .bool false]) ∧ w' = w := by
  go_enter Tryz.func31, Tryz.ntmps31
  go_wp2_with (go_in)
  go_ret2
  exact ⟨rfl, rfl⟩
theorem ranks_33 (w : World) : Calls Tryz.prog 29 #[.int .i64 33] w fun e w' => e = .returned (.agg #[.int .i64 64, .int .i64 1, .int .i64 64]) ∧ w' = w.alloc (.cells #[.int .i64 64, .int .i64 1, .int .i64 64] 25) := by
  go_enter Tryz.func29, Tryz.ntmps29
  go_wp2
  go_returns
  exact ⟨rfl, rfl⟩
theorem owner1_34 (w : World) : Calls Tryz.prog 28 #[.int .i64 34, .int .i64 1] w fun e w' => e = .returned (.int .i64 8) ∧ w' = w := by
  go_enter Tryz.func28, Tryz.ntmps28
  go_wp2_with (go_in)
  go_ret
  exact ⟨rfl, rfl⟩
theorem owner2_34 (w : World) : Calls Tryz.prog 28 #[.int .i64 34, .int .i64 2] w fun e w' => e = .returned (.int .i64 7) ∧ w' = w := by
  go_enter Tryz.func28, Tryz.ntmps28
  go_wp2_with (go_in)
  go_ret
  exact ⟨rfl, rfl⟩
theorem commutes_34 (w : World) : Calls Tryz.prog 30 #[.int .i64 34] w fun e w' => e = .returned (.bool false) ∧ w' = w := by
  go_enter Tryz.func30, Tryz.ntmps30
  go_wp2_with (go_in)
  go_ret
  exact ⟨rfl, rfl⟩
theorem identity_34 (w : World) : Calls Tryz.prog 31 #[.int .i64 34] w fun e w' => e = .returned (.tuple #[.int .i64 0, .bool false]) ∧ w' = w := by
  go_enter Tryz.func31, Tryz.ntmps31
  go_wp2_with (go_in)
  go_ret2
  exact ⟨rfl, rfl⟩
theorem ranks_34 (w : World) : Calls Tryz.prog 29 #[.int .i64 34] w fun e w' => e = .returned (.agg #[.int .i64 1, .int .i64 64, .int .i64 64]) ∧ w' = w.alloc (.cells #[.int .i64 1, .int .i64 64, .int .i64 64] 25) := by
  go_enter Tryz.func29, Tryz.ntmps29
  go_wp2
  go_returns
  exact ⟨rfl, rfl⟩
theorem owner1_35 (w : World) : Calls Tryz.prog 28 #[.int .i64 35, .int .i64 1] w fun e w' => e = .returned (.int .i64 0) ∧ w' = w := by
  go_enter Tryz.func28, Tryz.ntmps28
  go_wp2_with (go_in)
  go_ret
  exact ⟨rfl, rfl⟩
theorem owner2_35 (w : World) : Calls Tryz.prog 28 #[.int .i64 35, .int .i64 2] w fun e w' => e = .returned (.int .i64 7) ∧ w' = w := by
  go_enter Tryz.func28, Tryz.ntmps28
  go_wp2_with (go_in)
  go_ret
  exact ⟨rfl, rfl⟩
theorem commutes_35 (w : World) : Calls Tryz.prog 30 #[.int .i64 35] w fun e w' => e = .returned (.bool false) ∧ w' = w := by
  go_enter Tryz.func30, Tryz.ntmps30
  go_wp2_with (go_in)
  go_ret
  exact ⟨rfl, rfl⟩
theorem identity_35 (w : World) : Calls Tryz.prog 31 #[.int .i64 35] w fun e w' => e = .returned (.tuple #[.int .i64 0, .bool false]) ∧ w' = w := by
  go_enter Tryz.func31, Tryz.ntmps31
  go_wp2_with (go_in)
  go_ret2
  exact ⟨rfl, rfl⟩
theorem ranks_35 (w : World) : Calls Tryz.prog 29 #[.int .i64 35] w fun e w' => e = .returned (.agg #[.int .i64 64, .int .i64 64, .int .i64 64]) ∧ w' = w.alloc (.cells #[.int .i64 64, .int .i64 64, .int .i64 64] 25) := by
  go_enter Tryz.func29, Tryz.ntmps29
  go_wp2
  go_returns
  exact ⟨rfl, rfl⟩
end Go.Proofs.YtelcagfaflpolaaGreat


namespace Go.Proofs.YtelcagfaflpolaaGreat

open Go.RowKit

set_option linter.unusedVariables false

theorem owner1_19 (w : World) : Calls Tryz.prog 28 #[.int .i64 19, .int .i64 1] w fun e w' => e = .returned (.int .i64 5) ∧ w' = w := by
  go_enter Tryz.func28, Tryz.ntmps28
  go_wp2_with (go_in)
  go_ret
  exact ⟨rfl, rfl⟩
theorem owner2_19 (w : World) : Calls Tryz.prog 28 #[.int .i64 19, .int .i64 2] w fun e w' => e = .returned (.int .i64 7) ∧ w' = w := by
  go_enter Tryz.func28, Tryz.ntmps28
  go_wp2_with (go_in)
  go_ret
  exact ⟨rfl, rfl⟩
theorem commutes_19 (w : World) : Calls Tryz.prog 30 #[.int .i64 19] w fun e w' => e = .returned (.bool true) ∧ w' = w := by
  go_enter Tryz.func30, Tryz.ntmps30
  go_wp2_with (go_in)
  go_ret
  exact ⟨rfl, rfl⟩
theorem identity_19 (w : World) : Calls Tryz.prog 31 #[.int .i64 19] w fun e w' => e = .returned (.tuple #[.int .i64 0, .bool false]) ∧ w' = w := by
  go_enter Tryz.func31, Tryz.ntmps31
  go_wp2_with (go_in)
  go_ret2
  exact ⟨rfl, rfl⟩
theorem ranks_19 (w : World) : Calls Tryz.prog 29 #[.int .i64 19] w fun e w' => e = .returned (.agg #[.int .i64 0, .int .i64 64, .int .i64 64]) ∧ w' = w.alloc (.cells #[.int .i64 0, .int .i64 64, .int .i64 64] 25) := by
  go_enter Tryz.func29, Tryz.ntmps29
  go_wp2
  go_returns
  exact ⟨rfl, rfl⟩
theorem owner1_20 (w : World) : Calls Tryz.prog 28 #[.int .i64 20, .int .i64 1] w fun e w' => e = .returned (.int .i64 0) ∧ w' = w := by
  go_enter Tryz.func28, Tryz.ntmps28
  go_wp2_with (go_in)
  go_ret
  exact ⟨rfl, rfl⟩
theorem owner2_20 (w : World) : Calls Tryz.prog 28 #[.int .i64 20, .int .i64 2] w fun e w' => e = .returned (.int .i64 5) ∧ w' = w := by
  go_enter Tryz.func28, Tryz.ntmps28
  go_wp2_with (go_in)
  go_ret
  exact ⟨rfl, rfl⟩
theorem commutes_20 (w : World) : Calls Tryz.prog 30 #[.int .i64 20] w fun e w' => e = .returned (.bool false) ∧ w' = w := by
  go_enter Tryz.func30, Tryz.ntmps30
  go_wp2_with (go_in)
  go_ret
  exact ⟨rfl, rfl⟩
theorem identity_20 (w : World) : Calls Tryz.prog 31 #[.int .i64 20] w fun e w' => e = .returned (.tuple #[.int .i64 1, .bool true]) ∧ w' = w := by
  go_enter Tryz.func31, Tryz.ntmps31
  go_wp2_with (go_in)
  go_ret2
  exact ⟨rfl, rfl⟩
theorem ranks_20 (w : World) : Calls Tryz.prog 29 #[.int .i64 20] w fun e w' => e = .returned (.agg #[.int .i64 0, .int .i64 0, .int .i64 0]) ∧ w' = w.alloc (.cells #[.int .i64 0, .int .i64 0, .int .i64 0] 25) := by
  go_enter Tryz.func29, Tryz.ntmps29
  go_wp2
  go_returns
  exact ⟨rfl, rfl⟩
theorem owner1_21 (w : World) : Calls Tryz.prog 28 #[.int .i64 21, .int .i64 1] w fun e w' => e = .returned (.int .i64 5) ∧ w' = w := by
  go_enter Tryz.func28, Tryz.ntmps28
  go_wp2_with (go_in)
  go_ret
  exact ⟨rfl, rfl⟩
theorem owner2_21 (w : World) : Calls Tryz.prog 28 #[.int .i64 21, .int .i64 2] w fun e w' => e = .returned (.int .i64 5) ∧ w' = w := by
  go_enter Tryz.func28, Tryz.ntmps28
  go_wp2_with (go_in)
  go_ret
  exact ⟨rfl, rfl⟩
theorem commutes_21 (w : World) : Calls Tryz.prog 30 #[.int .i64 21] w fun e w' => e = .returned (.bool false) ∧ w' = w := by
  go_enter Tryz.func30, Tryz.ntmps30
  go_wp2_with (go_in)
  go_ret
  exact ⟨rfl, rfl⟩
theorem identity_21 (w : World) : Calls Tryz.prog 31 #[.int .i64 21] w fun e w' => e = .returned (.tuple #[.int .i64 1, .bool true]) ∧ w' = w := by
  go_enter Tryz.func31, Tryz.ntmps31
  go_wp2_with (go_in)
  go_ret2
  exact ⟨rfl, rfl⟩
theorem ranks_21 (w : World) : Calls Tryz.prog 29 #[.int .i64 21] w fun e w' => e = .returned (.agg #[.int .i64 0, .int .i64 0, .int .i64 0]) ∧ w' = w.alloc (.cells #[.int .i64 0, .int .i64 0, .int .i64 0] 25) := by
  go_enter Tryz.func29, Tryz.ntmps29
  go_wp2
  go_returns
  exact ⟨rfl, rfl⟩
theorem owner1_22 (w : World) : Calls Tryz.prog 28 #[.int .i64 22, .int .i64 1] w fun e w' => e = .returned (.int .i64 6) ∧ w' = w := by
  go_enter Tryz.func28, Tryz.ntmps28
  go_wp2_with (go_in)
  go_ret
  exact ⟨rfl, rfl⟩
theorem owner2_22 (w : World) : Calls Tryz.prog 28 #[.int .i64 22, .int .i64 2] w fun e w' => e = .returned (.int .i64 8) ∧ w' = w := by
  go_enter Tryz.func28, Tryz.ntmps28
  go_wp2_with (go_in)
  go_ret
  exact ⟨rfl, rfl⟩
theorem commutes_22 (w : World) : Calls Tryz.prog 30 #[.int .i64 22] w fun e w' => e = .returned (.bool false) ∧ w' = w := by
  go_enter Tryz.func30, Tryz.ntmps30
  go_wp2_with (go_in)
  go_ret
  exact ⟨rfl, rfl⟩
theorem identity_22 (w : World) : Calls Tryz.prog 31 #[.int .i64 22] w fun e w' => e = .returned (.tuple #[.int .i64 0, .bool false]) ∧ w' = w := by
  go_enter Tryz.func31, Tryz.ntmps31
  go_wp2_with (go_in)
  go_ret2
  exact ⟨rfl, rfl⟩
theorem ranks_22 (w : World) : Calls Tryz.prog 29 #[.int .i64 22] w fun e w' => e = .returned (.agg #[.int .i64 64, .int .i64 1, .int .i64 64]) ∧ w' = w.alloc (.cells #[.int .i64 64, .int .i64 1, .int .i64 64] 25) := by
  go_enter Tryz.func29, Tryz.ntmps29
  go_wp2
  go_returns
  exact ⟨rfl, rfl⟩
theorem owner1_23 (w : World) : Calls Tryz.prog 28 #[.int .i64 23, .int .i64 1] w fun e w' => e = .returned (.int .i64 6) ∧ w' = w := by
  go_enter Tryz.func28, Tryz.ntmps28
  go_wp2_with (go_in)
  go_ret
  exact ⟨rfl, rfl⟩
theorem owner2_23 (w : World) : Calls Tryz.prog 28 #[.int .i64 23, .int .i64 2] w fun e w' => e = .returned (.int .i64 6) ∧ w' = w := by
  go_enter Tryz.func28, Tryz.ntmps28
  go_wp2_with (go_in)
  go_ret
  exact ⟨rfl, rfl⟩
theorem commutes_23 (w : World) : Calls Tryz.prog 30 #[.int .i64 23] w fun e w' => e = .returned (.bool false) ∧ w' = w := by
  go_enter Tryz.func30, Tryz.ntmps30
  go_wp2_with (go_in)
  go_ret
  exact ⟨rfl, rfl⟩
theorem identity_23 (w : World) : Calls Tryz.prog 31 #[.int .i64 23] w fun e w' => e = .returned (.tuple #[.int .i64 0, .bool false]) ∧ w' = w := by
  go_enter Tryz.func31, Tryz.ntmps31
  go_wp2_with (go_in)
  go_ret2
  exact ⟨rfl, rfl⟩
theorem ranks_23 (w : World) : Calls Tryz.prog 29 #[.int .i64 23] w fun e w' => e = .returned (.agg #[.int .i64 64, .int .i64 1, .int .i64 64]) ∧ w' = w.alloc (.cells #[.int .i64 64, .int .i64 1, .int .i64 64] 25) := by
  go_enter Tryz.func29, Tryz.ntmps29
  go_wp2
  go_returns
  exact ⟨rfl, rfl⟩
theorem owner1_24 (w : World) : Calls Tryz.prog 28 #[.int .i64 24, .int .i64 1] w fun e w' => e = .returned (.int .i64 6) ∧ w' = w := by
  go_enter Tryz.func28, Tryz.ntmps28
  go_wp2_with (go_in)
  go_ret
  exact ⟨rfl, rfl⟩
theorem owner2_24 (w : World) : Calls Tryz.prog 28 #[.int .i64 24, .int .i64 2] w fun e w' => e = .returned (.int .i64 6) ∧ w' = w := by
  go_enter Tryz.func28, Tryz.ntmps28
  go_wp2_with (go_in)
  go_ret
  exact ⟨rfl, rfl⟩
theorem commutes_24 (w : World) : Calls Tryz.prog 30 #[.int .i64 24] w fun e w' => e = .returned (.bool false) ∧ w' = w := by
  go_enter Tryz.func30, Tryz.ntmps30
  go_wp2_with (go_in)
  go_ret
  exact ⟨rfl, rfl⟩
theorem identity_24 (w : World) : Calls Tryz.prog 31 #[.int .i64 24] w fun e w' => e = .returned (.tuple #[.int .i64 0, .bool false]) ∧ w' = w := by
  go_enter Tryz.func31, Tryz.ntmps31
  go_wp2_with (go_in)
  go_ret2
  exact ⟨rfl, rfl⟩
theorem ranks_24 (w : World) : Calls Tryz.prog 29 #[.int .i64 24] w fun e w' => e = .returned (.agg #[.int .i64 64, .int .i64 64, .int .i64 64]) ∧ w' = w.alloc (.cells #[.int .i64 64, .int .i64 64, .int .i64 64] 25) := by
  go_enter Tryz.func29, Tryz.ntmps29
  go_wp2
  go_returns
  exact ⟨rfl, rfl⟩
theorem owner1_25 (w : World) : Calls Tryz.prog 28 #[.int .i64 25, .int .i64 1] w fun e w' => e = .returned (.int .i64 6) ∧ w' = w := by
  go_enter Tryz.func28, Tryz.ntmps28
  go_wp2_with (go_in)
  go_ret
  exact ⟨rfl, rfl⟩
theorem owner2_25 (w : World) : Calls Tryz.prog 28 #[.int .i64 25, .int .i64 2] w fun e w' => e = .returned (.int .i64 6) ∧ w' = w := by
  go_enter Tryz.func28, Tryz.ntmps28
  go_wp2_with (go_in)
  go_ret
  exact ⟨rfl, rfl⟩
theorem commutes_25 (w : World) : Calls Tryz.prog 30 #[.int .i64 25] w fun e w' => e = .returned (.bool false) ∧ w' = w := by
  go_enter Tryz.func30, Tryz.ntmps30
  go_wp2_with (go_in)
  go_ret
  exact ⟨rfl, rfl⟩
theorem identity_25 (w : World) : Calls Tryz.prog 31 #[.int .i64 25] w fun e w' => e = .returned (.tuple #[.int .i64 0, .bool false]) ∧ w' = w := by
  go_enter Tryz.func31, Tryz.ntmps31
  go_wp2_with (go_in)
  go_ret2
  exact ⟨rfl, rfl⟩
theorem ranks_25 (w : World) : Calls Tryz.prog 29 #[.int .i64 25] w fun e w' => e = .returned (.agg #[.int .i64 64, .int .i64 64, .int .i64 64]) ∧ w' = w.alloc (.cells #[.int .i64 64, .int .i64 64, .int .i64 64] 25) := by
  go_enter Tryz.func29, Tryz.ntmps29
  go_wp2
  go_returns
  exact ⟨rfl, rfl⟩
theorem owner1_26 (w : World) : Calls Tryz.prog 28 #[.int .i64 26, .int .i64 1] w fun e w' => e = .returned (.int .i64 6) ∧ w' = w := by
  go_enter Tryz.func28, Tryz.ntmps28
  go_wp2_with (go_in)
  go_ret
  exact ⟨rfl, rfl⟩
theorem owner2_26 (w : World) : Calls Tryz.prog 28 #[.int .i64 26, .int .i64 2] w fun e w' => e = .returned (.int .i64 6) ∧ w' = w := by
  go_enter Tryz.func28, Tryz.ntmps28
  go_wp2_with (go_in)
  go_ret
  exact ⟨rfl, rfl⟩
theorem commutes_26 (w : World) : Calls Tryz.prog 30 #[.int .i64 26] w fun e w' => e = .returned (.bool false) ∧ w' = w := by
  go_enter Tryz.func30, Tryz.ntmps30
  go_wp2_with (go_in)
  go_ret
  exact ⟨rfl, rfl⟩
theorem identity_26 (w : World) : Calls Tryz.prog 31 #[.int .i64 26] w fun e w' => e = .returned (.tuple #[.int .i64 0, .bool false]) ∧ w' = w := by
  go_enter Tryz.func31, Tryz.ntmps31
  go_wp2_with (go_in)
  go_ret2
  exact ⟨rfl, rfl⟩
theorem ranks_26 (w : World) : Calls Tryz.prog 29 #[.int .i64 26] w fun e w' => e = .returned (.agg #[.int .i64 64, .int .i64 64, .int .i64 64]) ∧ w' = w.alloc (.cells #[.int .i64 64, .int .i64 64, .int .i64 64] 25) := by
  go_enter Tryz.func29, Tryz.ntmps29
  go_wp2
  go_returns
  exact ⟨rfl, rfl⟩
theorem owner1_27 (w : World) : Calls Tryz.prog 28 #[.int .i64 27, .int .i64 1] w fun e w' => e = .returned (.int .i64 0) ∧ w' = w := by
  go_enter Tryz.func28, Tryz.ntmps28
  go_wp2_with (go_in)
  go_ret
  exact ⟨rfl, rfl⟩
theorem owner2_27 (w : World) : Calls Tryz.prog 28 #[.int .i64 27, .int .i64 2] w fun e w' => e = .returned (.int .i64 7) ∧ w' = w := by
  go_enter Tryz.func28, Tryz.ntmps28
  go_wp2_with (go_in)
  go_ret
  exact ⟨rfl, rfl⟩
theorem commutes_27 (w : World) : Calls Tryz.prog 30 #[.int .i64 27] w fun e w' => e = .returned (.bool false) ∧ w' = w := by
  go_enter Tryz.func30, Tryz.ntmps30
  go_wp2_with (go_in)
  go_ret
  exact ⟨rfl, rfl⟩
theorem identity_27 (w : World) : Calls Tryz.prog 31 #[.int .i64 27] w fun e w' => e = .returned (.tuple #[.int .i64 0, .bool false]) ∧ w' = w := by
  go_enter Tryz.func31, Tryz.ntmps31
  go_wp2_with (go_in)
  go_ret2
  exact ⟨rfl, rfl⟩
theorem ranks_27 (w : World) : Calls Tryz.prog 29 #[.int .i64 27] w fun e w' => e = .returned (.agg #[.int .i64 0, .int .i64 0, .int .i64 64]) ∧ w' = w.alloc (.cells #[.int .i64 0, .int .i64 0, .int .i64 64] 25) := by
  go_enter Tryz.func29, Tryz.ntmps29
  go_wp2
  go_returns
  exact ⟨rfl, rfl⟩
end Go.Proofs.YtelcagfaflpolaaGreat


namespace Go.Proofs.YtelcagfaflpolaaGreat

open Go.RowKit

set_option linter.unusedVariables false

theorem owner1_10 (w : World) : Calls Tryz.prog 28 #[.int .i64 10, .int .i64 1] w fun e w' => e = .returned (.int .i64 7) ∧ w' = w := by
  go_enter Tryz.func28, Tryz.ntmps28
  go_wp2_with (go_in)
  go_ret
  exact ⟨rfl, rfl⟩
theorem owner2_10 (w : World) : Calls Tryz.prog 28 #[.int .i64 10, .int .i64 2] w fun e w' => e = .returned (.int .i64 5) ∧ w' = w := by
  go_enter Tryz.func28, Tryz.ntmps28
  go_wp2_with (go_in)
  go_ret
  exact ⟨rfl, rfl⟩
theorem commutes_10 (w : World) : Calls Tryz.prog 30 #[.int .i64 10] w fun e w' => e = .returned (.bool true) ∧ w' = w := by
  go_enter Tryz.func30, Tryz.ntmps30
  go_wp2_with (go_in)
  go_ret
  exact ⟨rfl, rfl⟩
theorem identity_10 (w : World) : Calls Tryz.prog 31 #[.int .i64 10] w fun e w' => e = .returned (.tuple #[.int .i64 1, .bool true]) ∧ w' = w := by
  go_enter Tryz.func31, Tryz.ntmps31
  go_wp2_with (go_in)
  go_ret2
  exact ⟨rfl, rfl⟩
theorem ranks_10 (w : World) : Calls Tryz.prog 29 #[.int .i64 10] w fun e w' => e = .returned (.agg #[.int .i64 64, .int .i64 0, .int .i64 0]) ∧ w' = w.alloc (.cells #[.int .i64 64, .int .i64 0, .int .i64 0] 25) := by
  go_enter Tryz.func29, Tryz.ntmps29
  go_wp2
  go_returns
  exact ⟨rfl, rfl⟩
theorem owner1_11 (w : World) : Calls Tryz.prog 28 #[.int .i64 11, .int .i64 1] w fun e w' => e = .returned (.int .i64 7) ∧ w' = w := by
  go_enter Tryz.func28, Tryz.ntmps28
  go_wp2_with (go_in)
  go_ret
  exact ⟨rfl, rfl⟩
theorem owner2_11 (w : World) : Calls Tryz.prog 28 #[.int .i64 11, .int .i64 2] w fun e w' => e = .returned (.int .i64 5) ∧ w' = w := by
  go_enter Tryz.func28, Tryz.ntmps28
  go_wp2_with (go_in)
  go_ret
  exact ⟨rfl, rfl⟩
theorem commutes_11 (w : World) : Calls Tryz.prog 30 #[.int .i64 11] w fun e w' => e = .returned (.bool true) ∧ w' = w := by
  go_enter Tryz.func30, Tryz.ntmps30
  go_wp2_with (go_in)
  go_ret
  exact ⟨rfl, rfl⟩
theorem identity_11 (w : World) : Calls Tryz.prog 31 #[.int .i64 11] w fun e w' => e = .returned (.tuple #[.int .i64 0, .bool true]) ∧ w' = w := by
  go_enter Tryz.func31, Tryz.ntmps31
  go_wp2_with (go_in)
  go_ret2
  exact ⟨rfl, rfl⟩
theorem ranks_11 (w : World) : Calls Tryz.prog 29 #[.int .i64 11] w fun e w' => e = .returned (.agg #[.int .i64 64, .int .i64 0, .int .i64 0]) ∧ w' = w.alloc (.cells #[.int .i64 64, .int .i64 0, .int .i64 0] 25) := by
  go_enter Tryz.func29, Tryz.ntmps29
  go_wp2
  go_returns
  exact ⟨rfl, rfl⟩
theorem owner1_12 (w : World) : Calls Tryz.prog 28 #[.int .i64 12, .int .i64 1] w fun e w' => e = .returned (.int .i64 5) ∧ w' = w := by
  go_enter Tryz.func28, Tryz.ntmps28
  go_wp2_with (go_in)
  go_ret
  exact ⟨rfl, rfl⟩
theorem owner2_12 (w : World) : Calls Tryz.prog 28 #[.int .i64 12, .int .i64 2] w fun e w' => e = .returned (.int .i64 5) ∧ w' = w := by
  go_enter Tryz.func28, Tryz.ntmps28
  go_wp2_with (go_in)
  go_ret
  exact ⟨rfl, rfl⟩
theorem commutes_12 (w : World) : Calls Tryz.prog 30 #[.int .i64 12] w fun e w' => e = .returned (.bool false) ∧ w' = w := by
  go_enter Tryz.func30, Tryz.ntmps30
  go_wp2_with (go_in)
  go_ret
  exact ⟨rfl, rfl⟩
theorem identity_12 (w : World) : Calls Tryz.prog 31 #[.int .i64 12] w fun e w' => e = .returned (.tuple #[.int .i64 1, .bool true]) ∧ w' = w := by
  go_enter Tryz.func31, Tryz.ntmps31
  go_wp2_with (go_in)
  go_ret2
  exact ⟨rfl, rfl⟩
theorem ranks_12 (w : World) : Calls Tryz.prog 29 #[.int .i64 12] w fun e w' => e = .returned (.agg #[.int .i64 0, .int .i64 0, .int .i64 0]) ∧ w' = w.alloc (.cells #[.int .i64 0, .int .i64 0, .int .i64 0] 25) := by
  go_enter Tryz.func29, Tryz.ntmps29
  go_wp2
  go_returns
  exact ⟨rfl, rfl⟩
theorem owner1_13 (w : World) : Calls Tryz.prog 28 #[.int .i64 13, .int .i64 1] w fun e w' => e = .returned (.int .i64 5) ∧ w' = w := by
  go_enter Tryz.func28, Tryz.ntmps28
  go_wp2_with (go_in)
  go_ret
  exact ⟨rfl, rfl⟩
theorem owner2_13 (w : World) : Calls Tryz.prog 28 #[.int .i64 13, .int .i64 2] w fun e w' => e = .returned (.int .i64 5) ∧ w' = w := by
  go_enter Tryz.func28, Tryz.ntmps28
  go_wp2_with (go_in)
  go_ret
  exact ⟨rfl, rfl⟩
theorem commutes_13 (w : World) : Calls Tryz.prog 30 #[.int .i64 13] w fun e w' => e = .returned (.bool false) ∧ w' = w := by
  go_enter Tryz.func30, Tryz.ntmps30
  go_wp2_with (go_in)
  go_ret
  exact ⟨rfl, rfl⟩
theorem identity_13 (w : World) : Calls Tryz.prog 31 #[.int .i64 13] w fun e w' => e = .returned (.tuple #[.int .i64 1, .bool true]) ∧ w' = w := by
  go_enter Tryz.func31, Tryz.ntmps31
  go_wp2_with (go_in)
  go_ret2
  exact ⟨rfl, rfl⟩
theorem ranks_13 (w : World) : Calls Tryz.prog 29 #[.int .i64 13] w fun e w' => e = .returned (.agg #[.int .i64 0, .int .i64 0, .int .i64 0]) ∧ w' = w.alloc (.cells #[.int .i64 0, .int .i64 0, .int .i64 0] 25) := by
  go_enter Tryz.func29, Tryz.ntmps29
  go_wp2
  go_returns
  exact ⟨rfl, rfl⟩
theorem owner1_14 (w : World) : Calls Tryz.prog 28 #[.int .i64 14, .int .i64 1] w fun e w' => e = .returned (.int .i64 0) ∧ w' = w := by
  go_enter Tryz.func28, Tryz.ntmps28
  go_wp2_with (go_in)
  go_ret
  exact ⟨rfl, rfl⟩
theorem owner2_14 (w : World) : Calls Tryz.prog 28 #[.int .i64 14, .int .i64 2] w fun e w' => e = .returned (.int .i64 5) ∧ w' = w := by
  go_enter Tryz.func28, Tryz.ntmps28
  go_wp2_with (go_in)
  go_ret
  exact ⟨rfl, rfl⟩
theorem commutes_14 (w : World) : Calls Tryz.prog 30 #[.int .i64 14] w fun e w' => e = .returned (.bool true) ∧ w' = w := by
  go_enter Tryz.func30, Tryz.ntmps30
  go_wp2_with (go_in)
  go_ret
  exact ⟨rfl, rfl⟩
theorem identity_14 (w : World) : Calls Tryz.prog 31 #[.int .i64 14] w fun e w' => e = .returned (.tuple #[.int .i64 0, .bool true]) ∧ w' = w := by
  go_enter Tryz.func31, Tryz.ntmps31
  go_wp2_with (go_in)
  go_ret2
  exact ⟨rfl, rfl⟩
theorem ranks_14 (w : World) : Calls Tryz.prog 29 #[.int .i64 14] w fun e w' => e = .returned (.agg #[.int .i64 0, .int .i64 0, .int .i64 0]) ∧ w' = w.alloc (.cells #[.int .i64 0, .int .i64 0, .int .i64 0] 25) := by
  go_enter Tryz.func29, Tryz.ntmps29
  go_wp2
  go_returns
  exact ⟨rfl, rfl⟩
theorem owner1_15 (w : World) : Calls Tryz.prog 28 #[.int .i64 15, .int .i64 1] w fun e w' => e = .returned (.int .i64 0) ∧ w' = w := by
  go_enter Tryz.func28, Tryz.ntmps28
  go_wp2_with (go_in)
  go_ret
  exact ⟨rfl, rfl⟩
theorem owner2_15 (w : World) : Calls Tryz.prog 28 #[.int .i64 15, .int .i64 2] w fun e w' => e = .returned (.int .i64 5) ∧ w' = w := by
  go_enter Tryz.func28, Tryz.ntmps28
  go_wp2_with (go_in)
  go_ret
  exact ⟨rfl, rfl⟩
theorem commutes_15 (w : World) : Calls Tryz.prog 30 #[.int .i64 15] w fun e w' => e = .returned (.bool true) ∧ w' = w := by
  go_enter Tryz.func30, Tryz.ntmps30
  go_wp2_with (go_in)
  go_ret
  exact ⟨rfl, rfl⟩
theorem identity_15 (w : World) : Calls Tryz.prog 31 #[.int .i64 15] w fun e w' => e = .returned (.tuple #[.int .i64 1, .bool true]) ∧ w' = w := by
  go_enter Tryz.func31, Tryz.ntmps31
  go_wp2_with (go_in)
  go_ret2
  exact ⟨rfl, rfl⟩
theorem ranks_15 (w : World) : Calls Tryz.prog 29 #[.int .i64 15] w fun e w' => e = .returned (.agg #[.int .i64 0, .int .i64 0, .int .i64 0]) ∧ w' = w.alloc (.cells #[.int .i64 0, .int .i64 0, .int .i64 0] 25) := by
  go_enter Tryz.func29, Tryz.ntmps29
  go_wp2
  go_returns
  exact ⟨rfl, rfl⟩
theorem owner1_16 (w : World) : Calls Tryz.prog 28 #[.int .i64 16, .int .i64 1] w fun e w' => e = .returned (.int .i64 5) ∧ w' = w := by
  go_enter Tryz.func28, Tryz.ntmps28
  go_wp2_with (go_in)
  go_ret
  exact ⟨rfl, rfl⟩
theorem owner2_16 (w : World) : Calls Tryz.prog 28 #[.int .i64 16, .int .i64 2] w fun e w' => e = .returned (.int .i64 5) ∧ w' = w := by
  go_enter Tryz.func28, Tryz.ntmps28
  go_wp2_with (go_in)
  go_ret
  exact ⟨rfl, rfl⟩
theorem commutes_16 (w : World) : Calls Tryz.prog 30 #[.int .i64 16] w fun e w' => e = .returned (.bool true) ∧ w' = w := by
  go_enter Tryz.func30, Tryz.ntmps30
  go_wp2_with (go_in)
  go_ret
  exact ⟨rfl, rfl⟩
theorem identity_16 (w : World) : Calls Tryz.prog 31 #[.int .i64 16] w fun e w' => e = .returned (.tuple #[.int .i64 0, .bool false]) ∧ w' = w := by
  go_enter Tryz.func31, Tryz.ntmps31
  go_wp2_with (go_in)
  go_ret2
  exact ⟨rfl, rfl⟩
theorem ranks_16 (w : World) : Calls Tryz.prog 29 #[.int .i64 16] w fun e w' => e = .returned (.agg #[.int .i64 0, .int .i64 0, .int .i64 0]) ∧ w' = w.alloc (.cells #[.int .i64 0, .int .i64 0, .int .i64 0] 25) := by
  go_enter Tryz.func29, Tryz.ntmps29
  go_wp2
  go_returns
  exact ⟨rfl, rfl⟩
theorem owner1_17 (w : World) : Calls Tryz.prog 28 #[.int .i64 17, .int .i64 1] w fun e w' => e = .returned (.int .i64 5) ∧ w' = w := by
  go_enter Tryz.func28, Tryz.ntmps28
  go_wp2_with (go_in)
  go_ret
  exact ⟨rfl, rfl⟩
theorem owner2_17 (w : World) : Calls Tryz.prog 28 #[.int .i64 17, .int .i64 2] w fun e w' => e = .returned (.int .i64 5) ∧ w' = w := by
  go_enter Tryz.func28, Tryz.ntmps28
  go_wp2_with (go_in)
  go_ret
  exact ⟨rfl, rfl⟩
theorem commutes_17 (w : World) : Calls Tryz.prog 30 #[.int .i64 17] w fun e w' => e = .returned (.bool true) ∧ w' = w := by
  go_enter Tryz.func30, Tryz.ntmps30
  go_wp2_with (go_in)
  go_ret
  exact ⟨rfl, rfl⟩
theorem identity_17 (w : World) : Calls Tryz.prog 31 #[.int .i64 17] w fun e w' => e = .returned (.tuple #[.int .i64 0, .bool false]) ∧ w' = w := by
  go_enter Tryz.func31, Tryz.ntmps31
  go_wp2_with (go_in)
  go_ret2
  exact ⟨rfl, rfl⟩
theorem ranks_17 (w : World) : Calls Tryz.prog 29 #[.int .i64 17] w fun e w' => e = .returned (.agg #[.int .i64 0, .int .i64 0, .int .i64 0]) ∧ w' = w.alloc (.cells #[.int .i64 0, .int .i64 0, .int .i64 0] 25) := by
  go_enter Tryz.func29, Tryz.ntmps29
  go_wp2
  go_returns
  exact ⟨rfl, rfl⟩
theorem owner1_18 (w : World) : Calls Tryz.prog 28 #[.int .i64 18, .int .i64 1] w fun e w' => e = .returned (.int .i64 5) ∧ w' = w := by
  go_enter Tryz.func28, Tryz.ntmps28
  go_wp2_with (go_in)
  go_ret
  exact ⟨rfl, rfl⟩
theorem owner2_18 (w : World) : Calls Tryz.prog 28 #[.int .i64 18, .int .i64 2] w fun e w' => e = .returned (.int .i64 7) ∧ w' = w := by
  go_enter Tryz.func28, Tryz.ntmps28
  go_wp2_with (go_in)
  go_ret
  exact ⟨rfl, rfl⟩
theorem commutes_18 (w : World) : Calls Tryz.prog 30 #[.int .i64 18] w fun e w' => e = .returned (.bool false) ∧ w' = w := by
  go_enter Tryz.func30, Tryz.ntmps30
  go_wp2_with (go_in)
  go_ret
  exact ⟨rfl, rfl⟩
theorem identity_18 (w : World) : Calls Tryz.prog 31 #[.int .i64 18] w fun e w' => e = .returned (.tuple #[.int .i64 0, .bool false]) ∧ w' = w := by
  go_enter Tryz.func31, Tryz.ntmps31
  go_wp2_with (go_in)
  go_ret2
  exact ⟨rfl, rfl⟩
theorem ranks_18 (w : World) : Calls Tryz.prog 29 #[.int .i64 18] w fun e w' => e = .returned (.agg #[.int .i64 0, .int .i64 64, .int .i64 64]) ∧ w' = w.alloc (.cells #[.int .i64 0, .int .i64 64, .int .i64 64] 25) := by
  go_enter Tryz.func29, Tryz.ntmps29
  go_wp2
  go_returns
  exact ⟨rfl, rfl⟩
end Go.Proofs.YtelcagfaflpolaaGreat


namespace Go.Proofs.YtelcagfaflpolaaGreat

open Go.RowKit

set_option linter.unusedVariables false

theorem owner1_1 (w : World) : Calls Tryz.prog 28 #[.int .i64 1, .int .i64 1] w fun e w' => e = .returned (.int .i64 5) ∧ w' = w := by
  go_enter Tryz.func28, Tryz.ntmps28
  go_wp2_with (go_in)
  go_ret
  exact ⟨rfl, rfl⟩
theorem owner2_1 (w : World) : Calls Tryz.prog 28 #[.int .i64 1, .int .i64 2] w fun e w' => e = .returned (.int .i64 5) ∧ w' = w := by
  go_enter Tryz.func28, Tryz.ntmps28
  go_wp2_with (go_in)
  go_ret
  exact ⟨rfl, rfl⟩
theorem commutes_1 (w : World) : Calls Tryz.prog 30 #[.int .i64 1] w fun e w' => e = .returned (.bool true) ∧ w' = w := by
  go_enter Tryz.func30, Tryz.ntmps30
  go_wp2_with (go_in)
  go_ret
  exact ⟨rfl, rfl⟩
theorem identity_1 (w : World) : Calls Tryz.prog 31 #[.int .i64 1] w fun e w' => e = .returned (.tuple #[.int .i64 0, .bool true]) ∧ w' = w := by
  go_enter Tryz.func31, Tryz.ntmps31
  go_wp2_with (go_in)
  go_ret2
  exact ⟨rfl, rfl⟩
theorem ranks_1 (w : World) : Calls Tryz.prog 29 #[.int .i64 1] w fun e w' => e = .returned (.agg #[.int .i64 0, .int .i64 0, .int .i64 0]) ∧ w' = w.alloc (.cells #[.int .i64 0, .int .i64 0, .int .i64 0] 25) := by
  go_enter Tryz.func29, Tryz.ntmps29
  go_wp2
  go_returns
  exact ⟨rfl, rfl⟩
theorem owner1_2 (w : World) : Calls Tryz.prog 28 #[.int .i64 2, .int .i64 1] w fun e w' => e = .returned (.int .i64 5) ∧ w' = w := by
  go_enter Tryz.func28, Tryz.ntmps28
  go_wp2_with (go_in)
  go_ret
  exact ⟨rfl, rfl⟩
theorem owner2_2 (w : World) : Calls Tryz.prog 28 #[.int .i64 2, .int .i64 2] w fun e w' => e = .returned (.int .i64 5) ∧ w' = w := by
  go_enter Tryz.func28, Tryz.ntmps28
  go_wp2_with (go_in)
  go_ret
  exact ⟨rfl, rfl⟩
theorem commutes_2 (w : World) : Calls Tryz.prog 30 #[.int .i64 2] w fun e w' => e = .returned (.bool false) ∧ w' = w := by
  go_enter Tryz.func30, Tryz.ntmps30
  go_wp2_with (go_in)
  go_ret
  exact ⟨rfl, rfl⟩
theorem identity_2 (w : World) : Calls Tryz.prog 31 #[.int .i64 2] w fun e w' => e = .returned (.tuple #[.int .i64 0, .bool true]) ∧ w' = w := by
  go_enter Tryz.func31, Tryz.ntmps31
  go_wp2_with (go_in)
  go_ret2
  exact ⟨rfl, rfl⟩
theorem ranks_2 (w : World) : Calls Tryz.prog 29 #[.int .i64 2] w fun e w' => e = .returned (.agg #[.int .i64 0, .int .i64 0, .int .i64 0]) ∧ w' = w.alloc (.cells #[.int .i64 0, .int .i64 0, .int .i64 0] 25) := by
  go_enter Tryz.func29, Tryz.ntmps29
  go_wp2
  go_returns
  exact ⟨rfl, rfl⟩
theorem owner1_3 (w : World) : Calls Tryz.prog 28 #[.int .i64 3, .int .i64 1] w fun e w' => e = .returned (.int .i64 5) ∧ w' = w := by
  go_enter Tryz.func28, Tryz.ntmps28
  go_wp2_with (go_in)
  go_ret
  exact ⟨rfl, rfl⟩
theorem owner2_3 (w : World) : Calls Tryz.prog 28 #[.int .i64 3, .int .i64 2] w fun e w' => e = .returned (.int .i64 5) ∧ w' = w := by
  go_enter Tryz.func28, Tryz.ntmps28
  go_wp2_with (go_in)
  go_ret
  exact ⟨rfl, rfl⟩
theorem commutes_3 (w : World) : Calls Tryz.prog 30 #[.int .i64 3] w fun e w' => e = .returned (.bool true) ∧ w' = w := by
  go_enter Tryz.func30, Tryz.ntmps30
  go_wp2_with (go_in)
  go_ret
  exact ⟨rfl, rfl⟩
theorem identity_3 (w : World) : Calls Tryz.prog 31 #[.int .i64 3] w fun e w' => e = .returned (.tuple #[.int .i64 1, .bool true]) ∧ w' = w := by
  go_enter Tryz.func31, Tryz.ntmps31
  go_wp2_with (go_in)
  go_ret2
  exact ⟨rfl, rfl⟩
theorem ranks_3 (w : World) : Calls Tryz.prog 29 #[.int .i64 3] w fun e w' => e = .returned (.agg #[.int .i64 0, .int .i64 0, .int .i64 0]) ∧ w' = w.alloc (.cells #[.int .i64 0, .int .i64 0, .int .i64 0] 25) := by
  go_enter Tryz.func29, Tryz.ntmps29
  go_wp2
  go_returns
  exact ⟨rfl, rfl⟩
theorem owner1_4 (w : World) : Calls Tryz.prog 28 #[.int .i64 4, .int .i64 1] w fun e w' => e = .returned (.int .i64 0) ∧ w' = w := by
  go_enter Tryz.func28, Tryz.ntmps28
  go_wp2_with (go_in)
  go_ret
  exact ⟨rfl, rfl⟩
theorem owner2_4 (w : World) : Calls Tryz.prog 28 #[.int .i64 4, .int .i64 2] w fun e w' => e = .returned (.int .i64 5) ∧ w' = w := by
  go_enter Tryz.func28, Tryz.ntmps28
  go_wp2_with (go_in)
  go_ret
  exact ⟨rfl, rfl⟩
theorem commutes_4 (w : World) : Calls Tryz.prog 30 #[.int .i64 4] w fun e w' => e = .returned (.bool false) ∧ w' = w := by
  go_enter Tryz.func30, Tryz.ntmps30
  go_wp2_with (go_in)
  go_ret
  exact ⟨rfl, rfl⟩
theorem identity_4 (w : World) : Calls Tryz.prog 31 #[.int .i64 4] w fun e w' => e = .returned (.tuple #[.int .i64 1, .bool true]) ∧ w' = w := by
  go_enter Tryz.func31, Tryz.ntmps31
  go_wp2_with (go_in)
  go_ret2
  exact ⟨rfl, rfl⟩
theorem ranks_4 (w : World) : Calls Tryz.prog 29 #[.int .i64 4] w fun e w' => e = .returned (.agg #[.int .i64 0, .int .i64 0, .int .i64 0]) ∧ w' = w.alloc (.cells #[.int .i64 0, .int .i64 0, .int .i64 0] 25) := by
  go_enter Tryz.func29, Tryz.ntmps29
  go_wp2
  go_returns
  exact ⟨rfl, rfl⟩
theorem owner1_5 (w : World) : Calls Tryz.prog 28 #[.int .i64 5, .int .i64 1] w fun e w' => e = .returned (.int .i64 5) ∧ w' = w := by
  go_enter Tryz.func28, Tryz.ntmps28
  go_wp2_with (go_in)
  go_ret
  exact ⟨rfl, rfl⟩
theorem owner2_5 (w : World) : Calls Tryz.prog 28 #[.int .i64 5, .int .i64 2] w fun e w' => e = .returned (.int .i64 5) ∧ w' = w := by
  go_enter Tryz.func28, Tryz.ntmps28
  go_wp2_with (go_in)
  go_ret
  exact ⟨rfl, rfl⟩
theorem commutes_5 (w : World) : Calls Tryz.prog 30 #[.int .i64 5] w fun e w' => e = .returned (.bool false) ∧ w' = w := by
  go_enter Tryz.func30, Tryz.ntmps30
  go_wp2_with (go_in)
  go_ret
  exact ⟨rfl, rfl⟩
theorem identity_5 (w : World) : Calls Tryz.prog 31 #[.int .i64 5] w fun e w' => e = .returned (.tuple #[.int .i64 0, .bool true]) ∧ w' = w := by
  go_enter Tryz.func31, Tryz.ntmps31
  go_wp2_with (go_in)
  go_ret2
  exact ⟨rfl, rfl⟩
theorem ranks_5 (w : World) : Calls Tryz.prog 29 #[.int .i64 5] w fun e w' => e = .returned (.agg #[.int .i64 0, .int .i64 0, .int .i64 0]) ∧ w' = w.alloc (.cells #[.int .i64 0, .int .i64 0, .int .i64 0] 25) := by
  go_enter Tryz.func29, Tryz.ntmps29
  go_wp2
  go_returns
  exact ⟨rfl, rfl⟩
theorem owner1_6 (w : World) : Calls Tryz.prog 28 #[.int .i64 6, .int .i64 1] w fun e w' => e = .returned (.int .i64 5) ∧ w' = w := by
  go_enter Tryz.func28, Tryz.ntmps28
  go_wp2_with (go_in)
  go_ret
  exact ⟨rfl, rfl⟩
theorem owner2_6 (w : World) : Calls Tryz.prog 28 #[.int .i64 6, .int .i64 2] w fun e w' => e = .returned (.int .i64 5) ∧ w' = w := by
  go_enter Tryz.func28, Tryz.ntmps28
  go_wp2_with (go_in)
  go_ret
  exact ⟨rfl, rfl⟩
theorem commutes_6 (w : World) : Calls Tryz.prog 30 #[.int .i64 6] w fun e w' => e = .returned (.bool true) ∧ w' = w := by
  go_enter Tryz.func30, Tryz.ntmps30
  go_wp2_with (go_in)
  go_ret
  exact ⟨rfl, rfl⟩
theorem identity_6 (w : World) : Calls Tryz.prog 31 #[.int .i64 6] w fun e w' => e = .returned (.tuple #[.int .i64 9223372036854775807, .bool true]) ∧ w' = w := by
  go_enter Tryz.func31, Tryz.ntmps31
  go_wp2_with (go_in)
  go_ret2
  exact ⟨rfl, rfl⟩
theorem ranks_6 (w : World) : Calls Tryz.prog 29 #[.int .i64 6] w fun e w' => e = .returned (.agg #[.int .i64 0, .int .i64 0, .int .i64 0]) ∧ w' = w.alloc (.cells #[.int .i64 0, .int .i64 0, .int .i64 0] 25) := by
  go_enter Tryz.func29, Tryz.ntmps29
  go_wp2
  go_returns
  exact ⟨rfl, rfl⟩
theorem owner1_7 (w : World) : Calls Tryz.prog 28 #[.int .i64 7, .int .i64 1] w fun e w' => e = .returned (.int .i64 5) ∧ w' = w := by
  go_enter Tryz.func28, Tryz.ntmps28
  go_wp2_with (go_in)
  go_ret
  exact ⟨rfl, rfl⟩
theorem owner2_7 (w : World) : Calls Tryz.prog 28 #[.int .i64 7, .int .i64 2] w fun e w' => e = .returned (.int .i64 5) ∧ w' = w := by
  go_enter Tryz.func28, Tryz.ntmps28
  go_wp2_with (go_in)
  go_ret
  exact ⟨rfl, rfl⟩
theorem commutes_7 (w : World) : Calls Tryz.prog 30 #[.int .i64 7] w fun e w' => e = .returned (.bool true) ∧ w' = w := by
  go_enter Tryz.func30, Tryz.ntmps30
  go_wp2_with (go_in)
  go_ret
  exact ⟨rfl, rfl⟩
theorem identity_7 (w : World) : Calls Tryz.prog 31 #[.int .i64 7] w fun e w' => e = .returned (.tuple #[.int .i64 (-9223372036854775808), .bool true]) ∧ w' = w := by
  go_enter Tryz.func31, Tryz.ntmps31
  go_wp2_with (go_in)
  go_ret2
  exact ⟨rfl, rfl⟩
theorem ranks_7 (w : World) : Calls Tryz.prog 29 #[.int .i64 7] w fun e w' => e = .returned (.agg #[.int .i64 0, .int .i64 0, .int .i64 0]) ∧ w' = w.alloc (.cells #[.int .i64 0, .int .i64 0, .int .i64 0] 25) := by
  go_enter Tryz.func29, Tryz.ntmps29
  go_wp2
  go_returns
  exact ⟨rfl, rfl⟩
theorem owner1_8 (w : World) : Calls Tryz.prog 28 #[.int .i64 8, .int .i64 1] w fun e w' => e = .returned (.int .i64 0) ∧ w' = w := by
  go_enter Tryz.func28, Tryz.ntmps28
  go_wp2_with (go_in)
  go_ret
  exact ⟨rfl, rfl⟩
theorem owner2_8 (w : World) : Calls Tryz.prog 28 #[.int .i64 8, .int .i64 2] w fun e w' => e = .returned (.int .i64 5) ∧ w' = w := by
  go_enter Tryz.func28, Tryz.ntmps28
  go_wp2_with (go_in)
  go_ret
  exact ⟨rfl, rfl⟩
theorem commutes_8 (w : World) : Calls Tryz.prog 30 #[.int .i64 8] w fun e w' => e = .returned (.bool false) ∧ w' = w := by
  go_enter Tryz.func30, Tryz.ntmps30
  go_wp2_with (go_in)
  go_ret
  exact ⟨rfl, rfl⟩
theorem identity_8 (w : World) : Calls Tryz.prog 31 #[.int .i64 8] w fun e w' => e = .returned (.tuple #[.int .i64 0, .bool true]) ∧ w' = w := by
  go_enter Tryz.func31, Tryz.ntmps31
  go_wp2_with (go_in)
  go_ret2
  exact ⟨rfl, rfl⟩
theorem ranks_8 (w : World) : Calls Tryz.prog 29 #[.int .i64 8] w fun e w' => e = .returned (.agg #[.int .i64 0, .int .i64 0, .int .i64 0]) ∧ w' = w.alloc (.cells #[.int .i64 0, .int .i64 0, .int .i64 0] 25) := by
  go_enter Tryz.func29, Tryz.ntmps29
  go_wp2
  go_returns
  exact ⟨rfl, rfl⟩
theorem owner1_9 (w : World) : Calls Tryz.prog 28 #[.int .i64 9, .int .i64 1] w fun e w' => e = .returned (.int .i64 0) ∧ w' = w := by
  go_enter Tryz.func28, Tryz.ntmps28
  go_wp2_with (go_in)
  go_ret
  exact ⟨rfl, rfl⟩
theorem owner2_9 (w : World) : Calls Tryz.prog 28 #[.int .i64 9, .int .i64 2] w fun e w' => e = .returned (.int .i64 5) ∧ w' = w := by
  go_enter Tryz.func28, Tryz.ntmps28
  go_wp2_with (go_in)
  go_ret
  exact ⟨rfl, rfl⟩
theorem commutes_9 (w : World) : Calls Tryz.prog 30 #[.int .i64 9] w fun e w' => e = .returned (.bool false) ∧ w' = w := by
  go_enter Tryz.func30, Tryz.ntmps30
  go_wp2_with (go_in)
  go_ret
  exact ⟨rfl, rfl⟩
theorem identity_9 (w : World) : Calls Tryz.prog 31 #[.int .i64 9] w fun e w' => e = .returned (.tuple #[.int .i64 0, .bool true]) ∧ w' = w := by
  go_enter Tryz.func31, Tryz.ntmps31
  go_wp2_with (go_in)
  go_ret2
  exact ⟨rfl, rfl⟩
theorem ranks_9 (w : World) : Calls Tryz.prog 29 #[.int .i64 9] w fun e w' => e = .returned (.agg #[.int .i64 0, .int .i64 0, .int .i64 0]) ∧ w' = w.alloc (.cells #[.int .i64 0, .int .i64 0, .int .i64 0] 25) := by
  go_enter Tryz.func29, Tryz.ntmps29
  go_wp2
  go_returns
  exact ⟨rfl, rfl⟩
end Go.Proofs.YtelcagfaflpolaaGreat







namespace Go.Proofs.YtelcagfaflpolaaGreat

open Go.RowKit

set_option linter.unusedVariables false

theorem rinfo_yes (k : Nat) (hk : k < 43) (w : World) : Calls Tryz.prog 11 #[.int .i64 ((k : Int) + 1)] w fun e w' => e = .returned (.tuple #[.agg #[.string (pS k), .bool (pMb k), .bool (pDb k), .int .i64 (pR k), .int .i64 (pL k), .int .i64 (pG k), .int .i64 (pI k), .bool (pH k), .bool (pC k)], .int .i64 0]) ∧ Below w.heap.size w w' := by
  match k, hk with
  | 0, _ => exact rinfo_go 0 (by omega) 5 5 0 0 0 0 true true true true w (by decide) (by decide) owner1_1 owner2_1 ranks_1 commutes_1 identity_1
  | 1, _ => exact rinfo_go 1 (by omega) 5 5 0 0 0 0 true false true true w (by decide) (by decide) owner1_2 owner2_2 ranks_2 commutes_2 identity_2
  | 2, _ => exact rinfo_go 2 (by omega) 5 5 0 0 0 1 true true true true w (by decide) (by decide) owner1_3 owner2_3 ranks_3 commutes_3 identity_3
  | 3, _ => exact rinfo_go 3 (by omega) 0 5 0 0 0 1 true false false true w (by decide) (by decide) owner1_4 owner2_4 ranks_4 commutes_4 identity_4
  | 4, _ => exact rinfo_go 4 (by omega) 5 5 0 0 0 0 true false true true w (by decide) (by decide) owner1_5 owner2_5 ranks_5 commutes_5 identity_5
  | 5, _ => exact rinfo_go 5 (by omega) 5 5 0 0 0 9223372036854775807 true true true true w (by decide) (by decide) owner1_6 owner2_6 ranks_6 commutes_6 identity_6
  | 6, _ => exact rinfo_go 6 (by omega) 5 5 0 0 0 (-9223372036854775808) true true true true w (by decide) (by decide) owner1_7 owner2_7 ranks_7 commutes_7 identity_7
  | 7, _ => exact rinfo_go 7 (by omega) 0 5 0 0 0 0 true false false true w (by decide) (by decide) owner1_8 owner2_8 ranks_8 commutes_8 identity_8
  | 8, _ => exact rinfo_go 8 (by omega) 0 5 0 0 0 0 true false false true w (by decide) (by decide) owner1_9 owner2_9 ranks_9 commutes_9 identity_9
  | 9, _ => exact rinfo_go 9 (by omega) 7 5 64 0 0 1 true true true true w (by decide) (by decide) owner1_10 owner2_10 ranks_10 commutes_10 identity_10
  | 10, _ => exact rinfo_go 10 (by omega) 7 5 64 0 0 0 true true true true w (by decide) (by decide) owner1_11 owner2_11 ranks_11 commutes_11 identity_11
  | 11, _ => exact rinfo_go 11 (by omega) 5 5 0 0 0 1 true false true true w (by decide) (by decide) owner1_12 owner2_12 ranks_12 commutes_12 identity_12
  | 12, _ => exact rinfo_go 12 (by omega) 5 5 0 0 0 1 true false true true w (by decide) (by decide) owner1_13 owner2_13 ranks_13 commutes_13 identity_13
  | 13, _ => exact rinfo_go 13 (by omega) 0 5 0 0 0 0 true true false true w (by decide) (by decide) owner1_14 owner2_14 ranks_14 commutes_14 identity_14
  | 14, _ => exact rinfo_go 14 (by omega) 0 5 0 0 0 1 true true false true w (by decide) (by decide) owner1_15 owner2_15 ranks_15 commutes_15 identity_15
  | 15, _ => exact rinfo_go 15 (by omega) 5 5 0 0 0 0 false true true true w (by decide) (by decide) owner1_16 owner2_16 ranks_16 commutes_16 identity_16
  | 16, _ => exact rinfo_go 16 (by omega) 5 5 0 0 0 0 false true true true w (by decide) (by decide) owner1_17 owner2_17 ranks_17 commutes_17 identity_17
  | 17, _ => exact rinfo_go 17 (by omega) 5 7 0 64 64 0 false false true true w (by decide) (by decide) owner1_18 owner2_18 ranks_18 commutes_18 identity_18
  | 18, _ => exact rinfo_go 18 (by omega) 5 7 0 64 64 0 false true true true w (by decide) (by decide) owner1_19 owner2_19 ranks_19 commutes_19 identity_19
  | 19, _ => exact rinfo_go 19 (by omega) 0 5 0 0 0 1 true false false true w (by decide) (by decide) owner1_20 owner2_20 ranks_20 commutes_20 identity_20
  | 20, _ => exact rinfo_go 20 (by omega) 5 5 0 0 0 1 true false true true w (by decide) (by decide) owner1_21 owner2_21 ranks_21 commutes_21 identity_21
  | 21, _ => exact rinfo_go 21 (by omega) 6 8 64 1 64 0 false false true true w (by decide) (by decide) owner1_22 owner2_22 ranks_22 commutes_22 identity_22
  | 22, _ => exact rinfo_go 22 (by omega) 6 6 64 1 64 0 false false true true w (by decide) (by decide) owner1_23 owner2_23 ranks_23 commutes_23 identity_23
  | 23, _ => exact rinfo_go 23 (by omega) 6 6 64 64 64 0 false false true true w (by decide) (by decide) owner1_24 owner2_24 ranks_24 commutes_24 identity_24
  | 24, _ => exact rinfo_go 24 (by omega) 6 6 64 64 64 0 false false true true w (by decide) (by decide) owner1_25 owner2_25 ranks_25 commutes_25 identity_25
  | 25, _ => exact rinfo_go 25 (by omega) 6 6 64 64 64 0 false false true true w (by decide) (by decide) owner1_26 owner2_26 ranks_26 commutes_26 identity_26
  | 26, _ => exact rinfo_go 26 (by omega) 0 7 0 0 64 0 false false false true w (by decide) (by decide) owner1_27 owner2_27 ranks_27 commutes_27 identity_27
  | 27, _ => exact rinfo_go 27 (by omega) 6 6 64 1 64 0 false false true true w (by decide) (by decide) owner1_28 owner2_28 ranks_28 commutes_28 identity_28
  | 28, _ => exact rinfo_go 28 (by omega) 6 6 64 1 64 0 false false true true w (by decide) (by decide) owner1_29 owner2_29 ranks_29 commutes_29 identity_29
  | 29, _ => exact rinfo_go 29 (by omega) 6 0 64 64 64 0 false false true false w (by decide) (by decide) owner1_30 owner2_30 ranks_30 commutes_30 identity_30
  | 30, _ => exact rinfo_go 30 (by omega) 6 0 64 64 64 0 false false true false w (by decide) (by decide) owner1_31 owner2_31 ranks_31 commutes_31 identity_31
  | 31, _ => exact rinfo_go 31 (by omega) 6 6 64 1 64 0 false false true true w (by decide) (by decide) owner1_32 owner2_32 ranks_32 commutes_32 identity_32
  | 32, _ => exact rinfo_go 32 (by omega) 6 6 64 1 64 0 false false true true w (by decide) (by decide) owner1_33 owner2_33 ranks_33 commutes_33 identity_33
  | 33, _ => exact rinfo_go 33 (by omega) 8 7 1 64 64 0 false false true true w (by decide) (by decide) owner1_34 owner2_34 ranks_34 commutes_34 identity_34
  | 34, _ => exact rinfo_go 34 (by omega) 0 7 64 64 64 0 false false false true w (by decide) (by decide) owner1_35 owner2_35 ranks_35 commutes_35 identity_35
  | 35, _ => exact rinfo_go 35 (by omega) 7 0 64 64 64 0 false false true false w (by decide) (by decide) owner1_36 owner2_36 ranks_36 commutes_36 identity_36
  | 36, _ => exact rinfo_go 36 (by omega) 7 7 64 64 64 0 false false true true w (by decide) (by decide) owner1_37 owner2_37 ranks_37 commutes_37 identity_37
  | 37, _ => exact rinfo_go 37 (by omega) 7 7 64 64 64 0 false false true true w (by decide) (by decide) owner1_38 owner2_38 ranks_38 commutes_38 identity_38
  | 38, _ => exact rinfo_go 38 (by omega) 8 8 1 1 1 0 false false true true w (by decide) (by decide) owner1_39 owner2_39 ranks_39 commutes_39 identity_39
  | 39, _ => exact rinfo_go 39 (by omega) 8 8 64 1 0 0 false false true true w (by decide) (by decide) owner1_40 owner2_40 ranks_40 commutes_40 identity_40
  | 40, _ => exact rinfo_go 40 (by omega) 6 6 64 64 64 0 false false true true w (by decide) (by decide) owner1_41 owner2_41 ranks_41 commutes_41 identity_41
  | 41, _ => exact rinfo_go 41 (by omega) 6 6 64 64 64 0 false false true true w (by decide) (by decide) owner1_42 owner2_42 ranks_42 commutes_42 identity_42
  | 42, _ => exact rinfo_go 42 (by omega) 8 0 1 64 64 0 false false true false w (by decide) (by decide) owner1_43 owner2_43 ranks_43 commutes_43 identity_43
  | _ + 43, h => exact absurd h (by omega)

theorem rinfo_no (op : Int) (w : World) (h : op < 1 ∨ 43 < op) : Calls Tryz.prog 11 #[.int .i64 op] w fun e w' => e = .returned (.tuple #[.agg #[.string ⟨#[]⟩, .bool false, .bool false, .int .i64 0, .int .i64 0, .int .i64 0, .int .i64 0, .bool false, .bool false], .int .i64 1]) ∧ Below w.heap.size w w' := by
  have b0 := box_below w (.cells #[.string ⟨#[]⟩, .bool false, .bool false, .int .i64 0, .int .i64 0, .int .i64 0, .int .i64 0, .bool false, .bool false] 27)
  by_cases c : op < 1
  · have h1 : decide (op < 1) = true := by simpa using c
    go_enter Tryz.func11, Tryz.ntmps11
    go_wp2
    go_returns
    exact ⟨rfl, b0⟩
  · have h1 : decide (op < 1) = false := by simpa using c
    have h2 : decide (43 < op) = true := by simp; omega
    go_enter Tryz.func11, Tryz.ntmps11
    go_wp2
    go_returns
    exact ⟨rfl, b0⟩
end Go.Proofs.YtelcagfaflpolaaGreat
