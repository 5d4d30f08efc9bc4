/- The contract of the law's 'begun': the calls whose answers the document fixes are answered so. -/
import Derived.Test.YtaajliecbchklaaFew
namespace Go.Proofs.Ytaajliecbchklaa
open Go.RowKit
set_option linter.unusedVariables false

theorem begun_any (w : World) :
    Calls Try.prog 8 #[] w fun e w' => e = .returned (.bool true) ∧ ∃ n, w' = w.drewN n := by
  have c1 : ∀ w, Calls Try.prog 18 #[.int .i64 2147483647, .int .i64 1] w fun e w' => e = .returned (.tuple #[.int .i64 2147483648, .bool true]) ∧ w' = w := fun w => add64 2147483647 1 rfl rfl w
  have c2 : ∀ w, Calls Try.prog 14 #[.int .i64 4, .int .i64 (-7), .int .i64 2] w fun e w' => e = .returned (.tuple #[.int .i64 (-4), .int .i64 0]) ∧ w' = w := fun w => dyad4 (-7) 2 rfl rfl w
  have c3 : ∀ w, Calls Try.prog 14 #[.int .i64 21, .int .i64 2, .int .i64 5] w fun e w' => e = .returned (.tuple #[.int .i64 10, .int .i64 0]) ∧ ∃ n, w' = w.drewN n := dyad21_25
  have c4 : ∀ w, Calls Try.prog 16 #[.int .i64 4, .int .i64 3] w fun e w' => e = .returned (.tuple #[.int .i64 0, .int .i64 16]) ∧ w' = w := fun w => monad4 3 rfl w
  have c5 : ∀ w, Calls Try.prog 16 #[.int .i64 2, .int .i64 (-9223372036854775808)] w fun e w' => e = .returned (.tuple #[.int .i64 0, .int .i64 14]) ∧ w' = w := fun w => monad2 (-9223372036854775808) rfl w
  go_enter Try.func8, Try.ntmps8
  go_wp2_with (first | (go_at_call 18; refine (c1 _).mono ?_; rintro e w' ⟨rfl, rfl⟩) | (go_at_call 14; (with_reducible refine (c2 _).mono ?_); rintro e w' ⟨rfl, rfl⟩) | (go_at_call 14; (with_reducible refine (c3 _).mono ?_); rintro e w' ⟨rfl, n, rfl⟩) | (go_at_call 16; (with_reducible refine (c4 _).mono ?_); rintro e w' ⟨rfl, rfl⟩) | (go_at_call 16; (with_reducible refine (c5 _).mono ?_); rintro e w' ⟨rfl, rfl⟩))
  go_ret
  exact ⟨rfl, _, rfl⟩
end Go.Proofs.Ytaajliecbchklaa
