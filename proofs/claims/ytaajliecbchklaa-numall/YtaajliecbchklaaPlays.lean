/- The contract of the law's 'plays': one call, whichever, is as the document says. -/
import Derived.Test.YtaajliecbchklaaRef7
namespace Go.Proofs.Ytaajliecbchklaa
open Go.RowKit
set_option linter.unusedVariables false

theorem below_box (w : World) (c : Array Value) (t : TypeId) (n : Nat) : Below w.heap.size w ((w.alloc (.cells c t)).drewN n) := ((Below.refl _ _).alloc (Nat.le_refl _) _).trans ⟨rfl, rfl, rfl, Nat.le_refl _, fun _ _ => rfl⟩

theorem rAddBool (a b : Int) (ha : inr a = true) (hb : inr b = true) (w : World) :
    Calls Try.prog 21 #[.int .i64 a, .int .i64 b] w fun e w' => e = .returned (.tuple #[.int .i64 (cut (a + b)), .bool (inr (a + b))]) ∧ w' = w := by
  have h := fun w => rSum a b ha hb w
  cases hi : inr (a + b)
  · rw [cut_no hi, ovr_no hi] at h
    rw [cut_no hi]
    clear hi
    go_enter Try.func21, Try.ntmps21
    go_wp2_with (go_at_call 46; refine (h _).mono ?_; rintro e w' ⟨rfl, rfl⟩)
    go_ret2
    exact ⟨rfl, rfl⟩
  · rw [cut_yes hi, ovr_yes hi] at h
    rw [cut_yes hi]
    clear hi
    go_enter Try.func21, Try.ntmps21
    go_wp2_with (go_at_call 46; refine (h _).mono ?_; rintro e w' ⟨rfl, rfl⟩)
    go_ret2
    exact ⟨rfl, rfl⟩

theorem rSubBool (a b : Int) (ha : inr a = true) (hb : inr b = true) (w : World) :
    Calls Try.prog 23 #[.int .i64 a, .int .i64 b] w fun e w' => e = .returned (.tuple #[.int .i64 (cut (a - b)), .bool (inr (a - b))]) ∧ w' = w := by
  have h := fun w => rLess a b ha hb w
  cases hi : inr (a - b)
  · rw [cut_no hi, ovr_no hi] at h
    rw [cut_no hi]
    clear hi
    go_enter Try.func23, Try.ntmps23
    go_wp2_with (go_at_call 47; refine (h _).mono ?_; rintro e w' ⟨rfl, rfl⟩)
    go_ret2
    exact ⟨rfl, rfl⟩
  · rw [cut_yes hi, ovr_yes hi] at h
    rw [cut_yes hi]
    clear hi
    go_enter Try.func23, Try.ntmps23
    go_wp2_with (go_at_call 47; refine (h _).mono ?_; rintro e w' ⟨rfl, rfl⟩)
    go_ret2
    exact ⟨rfl, rfl⟩

theorem rMulBool (a b : Int) (ha : inr a = true) (hb : inr b = true) (w : World) :
    Calls Try.prog 24 #[.int .i64 a, .int .i64 b] w fun e w' => e = .returned (.tuple #[.int .i64 (cut (a * b)), .bool (inr (a * b))]) ∧ w' = w := by
  have h := fun w => rTimes a b ha hb w
  cases hi : inr (a * b)
  · rw [cut_no hi, ovr_no hi] at h
    rw [cut_no hi]
    clear hi
    go_enter Try.func24, Try.ntmps24
    go_wp2_with (go_at_call 48; refine (h _).mono ?_; rintro e w' ⟨rfl, rfl⟩)
    go_ret2
    exact ⟨rfl, rfl⟩
  · rw [cut_yes hi, ovr_yes hi] at h
    rw [cut_yes hi]
    clear hi
    go_enter Try.func24, Try.ntmps24
    go_wp2_with (go_at_call 48; refine (h _).mono ?_; rintro e w' ⟨rfl, rfl⟩)
    go_ret2
    exact ⟨rfl, rfl⟩

theorem plays1 (op x y : Int) (hx : inr x = true) (hy : inr y = true) (w : World) :
    Calls Try.prog 9 #[.agg #[.int .i64 1, .int .i64 op, .int .i64 x, .int .i64 y]] w fun e w' => e = .returned (.bool true) ∧ Below w.heap.size w w' := by
  obtain ⟨N, E, c1, c2⟩ := monadBoth op y hy
  have d1 : (N == N) = true := by simp
  have d2 : (E == E) = true := by simp
  go_enter Try.func9, Try.ntmps9
  go_wp2_with (first | (go_at_call 16; (with_reducible refine (c1 _).mono ?_); rintro e w' ⟨rfl, n, rfl⟩) | (go_at_call 19; (with_reducible refine (c2 _).mono ?_); rintro e w' ⟨rfl, n, rfl⟩))
  go_ret
  exact ⟨rfl, below_box _ _ _ _⟩

theorem plays2 (op x y : Int) (hx : inr x = true) (hy : inr y = true) (w : World) :
    Calls Try.prog 9 #[.agg #[.int .i64 2, .int .i64 op, .int .i64 x, .int .i64 y]] w fun e w' => e = .returned (.bool true) ∧ Below w.heap.size w w' := by
  obtain ⟨N, E, c1, c2⟩ := dyadBoth op x y hx hy
  have d1 : (N == N) = true := by simp
  have d2 : (E == E) = true := by simp
  go_enter Try.func9, Try.ntmps9
  go_wp2_with (first | (go_at_call 14; (with_reducible refine (c1 _).mono ?_); rintro e w' ⟨rfl, n, rfl⟩) | (go_at_call 20; (with_reducible refine (c2 _).mono ?_); rintro e w' ⟨rfl, n, rfl⟩))
  go_ret
  exact ⟨rfl, below_box _ _ _ _⟩

theorem plays3 (op x y : Int) (hx : inr x = true) (hy : inr y = true) (w : World) :
    Calls Try.prog 9 #[.agg #[.int .i64 3, .int .i64 op, .int .i64 x, .int .i64 y]] w fun e w' => e = .returned (.bool true) ∧ Below w.heap.size w w' := by
  have c1 := fun w => add64 x y hx hy w
  have c2 := fun w => rAddBool x y hx hy w
  generalize cut (x + y) = N at *
  generalize inr (x + y) = E at *
  have d1 : (N == N) = true := by simp
  have d2 : (E == E) = true := by simp
  go_enter Try.func9, Try.ntmps9
  go_wp2_with (first | (go_at_call 18; (with_reducible refine (c1 _).mono ?_); rintro e w' ⟨rfl, rfl⟩) | (go_at_call 21; (with_reducible refine (c2 _).mono ?_); rintro e w' ⟨rfl, rfl⟩))
  go_ret
  exact ⟨rfl, below_box _ _ _ 0⟩

theorem plays4 (op x y : Int) (hx : inr x = true) (hy : inr y = true) (w : World) :
    Calls Try.prog 9 #[.agg #[.int .i64 4, .int .i64 op, .int .i64 x, .int .i64 y]] w fun e w' => e = .returned (.bool true) ∧ Below w.heap.size w w' := by
  have c1 := fun w => sub64 x y hx hy w
  have c2 := fun w => rSubBool x y hx hy w
  generalize cut (x - y) = N at *
  generalize inr (x - y) = E at *
  have d1 : (N == N) = true := by simp
  have d2 : (E == E) = true := by simp
  go_enter Try.func9, Try.ntmps9
  go_wp2_with (first | (go_at_call 22; (with_reducible refine (c1 _).mono ?_); rintro e w' ⟨rfl, rfl⟩) | (go_at_call 23; (with_reducible refine (c2 _).mono ?_); rintro e w' ⟨rfl, rfl⟩))
  go_ret
  exact ⟨rfl, below_box _ _ _ 0⟩

theorem plays5 (op x y : Int) (hx : inr x = true) (hy : inr y = true) (w : World) :
    Calls Try.prog 9 #[.agg #[.int .i64 5, .int .i64 op, .int .i64 x, .int .i64 y]] w fun e w' => e = .returned (.bool true) ∧ Below w.heap.size w w' := by
  have c1 := fun w => mul64 x y hx hy w
  have c2 := fun w => rMulBool x y hx hy w
  generalize cut (x * y) = N at *
  generalize inr (x * y) = E at *
  have d1 : (N == N) = true := by simp
  have d2 : (E == E) = true := by simp
  go_enter Try.func9, Try.ntmps9
  go_wp2_with (first | (go_at_call 17; (with_reducible refine (c1 _).mono ?_); rintro e w' ⟨rfl, rfl⟩) | (go_at_call 24; (with_reducible refine (c2 _).mono ?_); rintro e w' ⟨rfl, rfl⟩))
  go_ret
  exact ⟨rfl, below_box _ _ _ 0⟩

theorem plays_other (kind op x y : Int) (h : kind < 1 ∨ 5 < kind) (w : World) :
    Calls Try.prog 9 #[.agg #[.int .i64 kind, .int .i64 op, .int .i64 x, .int .i64 y]] w fun e w' => e = .returned (.bool true) ∧ Below w.heap.size w w' := by
  have t1 : (kind == 1) = false := by simp; omega
  have t2 : (kind == 2) = false := by simp; omega
  have t3 : (kind == 3) = false := by simp; omega
  have t4 : (kind == 4) = false := by simp; omega
  have t5 : (kind == 5) = false := by simp; omega
  go_enter Try.func9, Try.ntmps9
  go_wp2
  go_ret
  exact ⟨rfl, below_box _ _ _ 0⟩

theorem plays_any (kind op x y : Int) (hx : inr x = true) (hy : inr y = true) (w : World) :
    Calls Try.prog 9 #[.agg #[.int .i64 kind, .int .i64 op, .int .i64 x, .int .i64 y]] w fun e w' => e = .returned (.bool true) ∧ Below w.heap.size w w' := by
  by_cases h : kind < 1 ∨ 5 < kind
  · exact plays_other kind op x y h w
  · rcases (show kind = 1 ∨ kind = 2 ∨ kind = 3 ∨ kind = 4 ∨ kind = 5 by omega) with rfl | rfl | rfl | rfl | rfl
    · exact plays1 op x y hx hy w
    · exact plays2 op x y hx hy w
    · exact plays3 op x y hx hy w
    · exact plays4 op x y hx hy w
    · exact plays5 op x y hx hy w
end Go.Proofs.Ytaajliecbchklaa
