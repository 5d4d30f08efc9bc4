/- The walk of the law NumOrder: for every two numbers of 64 bits it answers true. -/
import Derived.Test.YtaajliecbchklabBegun
import Derived.Handy
namespace Go.Proofs.Ytaajliecbchklab
open Go.RowKit
set_option linter.unusedVariables false

set_option maxHeartbeats 2000000 in
theorem order_less (x y : Int) (h : x < y)
    (c8 : ∀ w, Calls Try.prog 9 #[.int .i64 8, .int .i64 x, .int .i64 y] w fun e w' => e = .returned (.tuple #[.int .i64 1, .int .i64 0]) ∧ w' = w)
    (c10 : ∀ w, Calls Try.prog 9 #[.int .i64 10, .int .i64 x, .int .i64 y] w fun e w' => e = .returned (.tuple #[.int .i64 0, .int .i64 0]) ∧ w' = w)
    (c9 : ∀ w, Calls Try.prog 9 #[.int .i64 9, .int .i64 x, .int .i64 y] w fun e w' => e = .returned (.tuple #[.int .i64 0, .int .i64 0]) ∧ w' = w)
    (c12 : ∀ w, Calls Try.prog 9 #[.int .i64 12, .int .i64 x, .int .i64 y] w fun e w' => e = .returned (.tuple #[.int .i64 1, .int .i64 0]) ∧ w' = w)
    (c13 : ∀ w, Calls Try.prog 9 #[.int .i64 13, .int .i64 x, .int .i64 y] w fun e w' => e = .returned (.tuple #[.int .i64 0, .int .i64 0]) ∧ w' = w)
    (c11 : ∀ w, Calls Try.prog 9 #[.int .i64 11, .int .i64 x, .int .i64 y] w fun e w' => e = .returned (.tuple #[.int .i64 1, .int .i64 0]) ∧ w' = w)
    (c6 : ∀ w, Calls Try.prog 9 #[.int .i64 6, .int .i64 x, .int .i64 y] w fun e w' => e = .returned (.tuple #[.int .i64 x, .int .i64 0]) ∧ w' = w)
    (c7 : ∀ w, Calls Try.prog 9 #[.int .i64 7, .int .i64 x, .int .i64 y] w fun e w' => e = .returned (.tuple #[.int .i64 y, .int .i64 0]) ∧ w' = w)
    (w : World) : Calls Try.prog 4 #[.int .i64 x, .int .i64 y] w fun e w' => e = .returned (.bool true) ∧ Grown w w' := by
  have d1 : decide (x < y) = true := by simpa using h
  have d2 : (x == y) = false := by simp; omega
  have d3 : decide (x ≤ y) = true := by simp; omega
  have d4 : (x == x) = true := by simp
  have d5 : (y == y) = true := by simp
  go_enter Try.func4, Try.ntmps4
  go_wp2_with (go_at_call 6; refine (begun_any _).mono ?_; rintro e w1 ⟨rfl, n, hw⟩; have HW : Hid (w1 = w.drewN n) := hw; clear hw)
  refine wp_loop_rounds 9 ?_
  iterate 8 (rw [rounds_succ]; go_wp2_with (first | (go_at_call 9; (with_reducible refine (c8 _).mono ?_); rintro e w' ⟨rfl, rfl⟩) | (go_at_call 9; (with_reducible refine (c10 _).mono ?_); rintro e w' ⟨rfl, rfl⟩) | (go_at_call 9; (with_reducible refine (c9 _).mono ?_); rintro e w' ⟨rfl, rfl⟩) | (go_at_call 9; (with_reducible refine (c12 _).mono ?_); rintro e w' ⟨rfl, rfl⟩) | (go_at_call 9; (with_reducible refine (c13 _).mono ?_); rintro e w' ⟨rfl, rfl⟩) | (go_at_call 9; (with_reducible refine (c11 _).mono ?_); rintro e w' ⟨rfl, rfl⟩) | (go_at_call 9; (with_reducible refine (c6 _).mono ?_); rintro e w' ⟨rfl, rfl⟩) | (go_at_call 9; (with_reducible refine (c7 _).mono ?_); rintro e w' ⟨rfl, rfl⟩)))
  rw [rounds_succ]
  go_wp2
  refine wp_loop_rounds 7 ?_
  iterate 6 (rw [rounds_succ]; go_wp2)
  rw [rounds_succ]
  go_wp2
  go_ret
  exact ⟨rfl, by have := HW.out; subst this; exact (Grown.alloc (Grown.alloc (Grown.refl w) _ _) _ _ : Grown w (((w.drewN n).alloc _).alloc _))⟩
set_option maxHeartbeats 2000000 in
theorem order_same (x : Int) 
    (c8 : ∀ w, Calls Try.prog 9 #[.int .i64 8, .int .i64 x, .int .i64 x] w fun e w' => e = .returned (.tuple #[.int .i64 0, .int .i64 0]) ∧ w' = w)
    (c10 : ∀ w, Calls Try.prog 9 #[.int .i64 10, .int .i64 x, .int .i64 x] w fun e w' => e = .returned (.tuple #[.int .i64 1, .int .i64 0]) ∧ w' = w)
    (c9 : ∀ w, Calls Try.prog 9 #[.int .i64 9, .int .i64 x, .int .i64 x] w fun e w' => e = .returned (.tuple #[.int .i64 0, .int .i64 0]) ∧ w' = w)
    (c12 : ∀ w, Calls Try.prog 9 #[.int .i64 12, .int .i64 x, .int .i64 x] w fun e w' => e = .returned (.tuple #[.int .i64 1, .int .i64 0]) ∧ w' = w)
    (c13 : ∀ w, Calls Try.prog 9 #[.int .i64 13, .int .i64 x, .int .i64 x] w fun e w' => e = .returned (.tuple #[.int .i64 1, .int .i64 0]) ∧ w' = w)
    (c11 : ∀ w, Calls Try.prog 9 #[.int .i64 11, .int .i64 x, .int .i64 x] w fun e w' => e = .returned (.tuple #[.int .i64 0, .int .i64 0]) ∧ w' = w)
    (c6 : ∀ w, Calls Try.prog 9 #[.int .i64 6, .int .i64 x, .int .i64 x] w fun e w' => e = .returned (.tuple #[.int .i64 x, .int .i64 0]) ∧ w' = w)
    (c7 : ∀ w, Calls Try.prog 9 #[.int .i64 7, .int .i64 x, .int .i64 x] w fun e w' => e = .returned (.tuple #[.int .i64 x, .int .i64 0]) ∧ w' = w)
    (w : World) : Calls Try.prog 4 #[.int .i64 x, .int .i64 x] w fun e w' => e = .returned (.bool true) ∧ Grown w w' := by
  have d2 : (x == x) = true := by simp
  have d1 : decide (x < x) = false := by simp
  have d3 : decide (x ≤ x) = true := by simp
  go_enter Try.func4, Try.ntmps4
  go_wp2_with (go_at_call 6; refine (begun_any _).mono ?_; rintro e w1 ⟨rfl, n, hw⟩; have HW : Hid (w1 = w.drewN n) := hw; clear hw)
  refine wp_loop_rounds 9 ?_
  iterate 8 (rw [rounds_succ]; go_wp2_with (first | (go_at_call 9; (with_reducible refine (c8 _).mono ?_); rintro e w' ⟨rfl, rfl⟩) | (go_at_call 9; (with_reducible refine (c10 _).mono ?_); rintro e w' ⟨rfl, rfl⟩) | (go_at_call 9; (with_reducible refine (c9 _).mono ?_); rintro e w' ⟨rfl, rfl⟩) | (go_at_call 9; (with_reducible refine (c12 _).mono ?_); rintro e w' ⟨rfl, rfl⟩) | (go_at_call 9; (with_reducible refine (c13 _).mono ?_); rintro e w' ⟨rfl, rfl⟩) | (go_at_call 9; (with_reducible refine (c11 _).mono ?_); rintro e w' ⟨rfl, rfl⟩) | (go_at_call 9; (with_reducible refine (c6 _).mono ?_); rintro e w' ⟨rfl, rfl⟩) | (go_at_call 9; (with_reducible refine (c7 _).mono ?_); rintro e w' ⟨rfl, rfl⟩)))
  rw [rounds_succ]
  go_wp2
  refine wp_loop_rounds 7 ?_
  iterate 6 (rw [rounds_succ]; go_wp2)
  rw [rounds_succ]
  go_wp2
  go_ret
  exact ⟨rfl, by have := HW.out; subst this; exact (Grown.alloc (Grown.alloc (Grown.refl w) _ _) _ _ : Grown w (((w.drewN n).alloc _).alloc _))⟩
set_option maxHeartbeats 2000000 in
theorem order_more (x y : Int) (h : y < x)
    (c8 : ∀ w, Calls Try.prog 9 #[.int .i64 8, .int .i64 x, .int .i64 y] w fun e w' => e = .returned (.tuple #[.int .i64 0, .int .i64 0]) ∧ w' = w)
    (c10 : ∀ w, Calls Try.prog 9 #[.int .i64 10, .int .i64 x, .int .i64 y] w fun e w' => e = .returned (.tuple #[.int .i64 0, .int .i64 0]) ∧ w' = w)
    (c9 : ∀ w, Calls Try.prog 9 #[.int .i64 9, .int .i64 x, .int .i64 y] w fun e w' => e = .returned (.tuple #[.int .i64 1, .int .i64 0]) ∧ w' = w)
    (c12 : ∀ w, Calls Try.prog 9 #[.int .i64 12, .int .i64 x, .int .i64 y] w fun e w' => e = .returned (.tuple #[.int .i64 0, .int .i64 0]) ∧ w' = w)
    (c13 : ∀ w, Calls Try.prog 9 #[.int .i64 13, .int .i64 x, .int .i64 y] w fun e w' => e = .returned (.tuple #[.int .i64 1, .int .i64 0]) ∧ w' = w)
    (c11 : ∀ w, Calls Try.prog 9 #[.int .i64 11, .int .i64 x, .int .i64 y] w fun e w' => e = .returned (.tuple #[.int .i64 1, .int .i64 0]) ∧ w' = w)
    (c6 : ∀ w, Calls Try.prog 9 #[.int .i64 6, .int .i64 x, .int .i64 y] w fun e w' => e = .returned (.tuple #[.int .i64 y, .int .i64 0]) ∧ w' = w)
    (c7 : ∀ w, Calls Try.prog 9 #[.int .i64 7, .int .i64 x, .int .i64 y] w fun e w' => e = .returned (.tuple #[.int .i64 x, .int .i64 0]) ∧ w' = w)
    (w : World) : Calls Try.prog 4 #[.int .i64 x, .int .i64 y] w fun e w' => e = .returned (.bool true) ∧ Grown w w' := by
  have d1 : decide (x < y) = false := by simp; omega
  have d2 : (x == y) = false := by simp; omega
  have d6 : (y == x) = false := by simp; omega
  have d3 : decide (y ≤ x) = true := by simp; omega
  have d4 : (x == x) = true := by simp
  have d5 : (y == y) = true := by simp
  go_enter Try.func4, Try.ntmps4
  go_wp2_with (go_at_call 6; refine (begun_any _).mono ?_; rintro e w1 ⟨rfl, n, hw⟩; have HW : Hid (w1 = w.drewN n) := hw; clear hw)
  refine wp_loop_rounds 9 ?_
  iterate 8 (rw [rounds_succ]; go_wp2_with (first | (go_at_call 9; (with_reducible refine (c8 _).mono ?_); rintro e w' ⟨rfl, rfl⟩) | (go_at_call 9; (with_reducible refine (c10 _).mono ?_); rintro e w' ⟨rfl, rfl⟩) | (go_at_call 9; (with_reducible refine (c9 _).mono ?_); rintro e w' ⟨rfl, rfl⟩) | (go_at_call 9; (with_reducible refine (c12 _).mono ?_); rintro e w' ⟨rfl, rfl⟩) | (go_at_call 9; (with_reducible refine (c13 _).mono ?_); rintro e w' ⟨rfl, rfl⟩) | (go_at_call 9; (with_reducible refine (c11 _).mono ?_); rintro e w' ⟨rfl, rfl⟩) | (go_at_call 9; (with_reducible refine (c6 _).mono ?_); rintro e w' ⟨rfl, rfl⟩) | (go_at_call 9; (with_reducible refine (c7 _).mono ?_); rintro e w' ⟨rfl, rfl⟩)))
  rw [rounds_succ]
  go_wp2
  refine wp_loop_rounds 7 ?_
  iterate 6 (rw [rounds_succ]; go_wp2)
  rw [rounds_succ]
  go_wp2
  go_ret
  exact ⟨rfl, by have := HW.out; subst this; exact (Grown.alloc (Grown.alloc (Grown.refl w) _ _) _ _ : Grown w (((w.drewN n).alloc _).alloc _))⟩
theorem order_walk (x y : Int) (hx : inr x = true) (hy : inr y = true) (w : World) :
    Calls Try.prog 4 #[.int .i64 x, .int .i64 y] w fun e w' => e = .returned (.bool true) ∧ Grown w w' := by
  rcases (show x < y ∨ x = y ∨ y < x by omega) with h | h | h
  · skip
    have c8 := fun w => dyad8 x y hx hy w
    rw [show tr (decide (x < y)) = 1 by unfold tr; rw [if_pos (by simp; omega)]] at c8
    have c10 := fun w => dyad10 x y hx hy w
    rw [show tr (x == y) = 0 by unfold tr; rw [if_neg (by simp; omega)]] at c10
    have c9 := fun w => dyad9 x y hx hy w
    rw [show tr (decide (y < x)) = 0 by unfold tr; rw [if_neg (by simp; omega)]] at c9
    have c12 := fun w => dyad12 x y hx hy w
    rw [show tr (decide (x ≤ y)) = 1 by unfold tr; rw [if_pos (by simp; omega)]] at c12
    have c13 := fun w => dyad13 x y hx hy w
    rw [show tr (decide (y ≤ x)) = 0 by unfold tr; rw [if_neg (by simp; omega)]] at c13
    have c11 := fun w => dyad11 x y hx hy w
    rw [show tr (x != y) = 1 by unfold tr; rw [if_pos (by simp; omega)]] at c11
    have c6 := fun w => dyad6 x y hx hy w
    rw [show min x y = x by omega] at c6
    have c7 := fun w => dyad7 x y hx hy w
    rw [show max x y = y by omega] at c7
    exact order_less x y h c8 c10 c9 c12 c13 c11 c6 c7 w
  · subst h
    have c8 := fun w => dyad8 x x hx hx w
    rw [show tr (decide (x < x)) = 0 by unfold tr; rw [if_neg (by simp)]] at c8
    have c10 := fun w => dyad10 x x hx hx w
    rw [show tr (x == x) = 1 by unfold tr; rw [if_pos (by simp)]] at c10
    have c9 := fun w => dyad9 x x hx hx w
    rw [show tr (decide (x < x)) = 0 by unfold tr; rw [if_neg (by simp)]] at c9
    have c12 := fun w => dyad12 x x hx hx w
    rw [show tr (decide (x ≤ x)) = 1 by unfold tr; rw [if_pos (by simp)]] at c12
    have c13 := fun w => dyad13 x x hx hx w
    rw [show tr (decide (x ≤ x)) = 1 by unfold tr; rw [if_pos (by simp)]] at c13
    have c11 := fun w => dyad11 x x hx hx w
    rw [show tr (x != x) = 0 by unfold tr; rw [if_neg (by simp)]] at c11
    have c6 := fun w => dyad6 x x hx hx w
    rw [show min x x = x by omega] at c6
    have c7 := fun w => dyad7 x x hx hx w
    rw [show max x x = x by omega] at c7
    exact order_same x c8 c10 c9 c12 c13 c11 c6 c7 w
  · skip
    have c8 := fun w => dyad8 x y hx hy w
    rw [show tr (decide (x < y)) = 0 by unfold tr; rw [if_neg (by simp; omega)]] at c8
    have c10 := fun w => dyad10 x y hx hy w
    rw [show tr (x == y) = 0 by unfold tr; rw [if_neg (by simp; omega)]] at c10
    have c9 := fun w => dyad9 x y hx hy w
    rw [show tr (decide (y < x)) = 1 by unfold tr; rw [if_pos (by simp; omega)]] at c9
    have c12 := fun w => dyad12 x y hx hy w
    rw [show tr (decide (x ≤ y)) = 0 by unfold tr; rw [if_neg (by simp; omega)]] at c12
    have c13 := fun w => dyad13 x y hx hy w
    rw [show tr (decide (y ≤ x)) = 1 by unfold tr; rw [if_pos (by simp; omega)]] at c13
    have c11 := fun w => dyad11 x y hx hy w
    rw [show tr (x != y) = 1 by unfold tr; rw [if_pos (by simp; omega)]] at c11
    have c6 := fun w => dyad6 x y hx hy w
    rw [show min x y = y by omega] at c6
    have c7 := fun w => dyad7 x y hx hy w
    rw [show max x y = x by omega] at c7
    exact order_more x y h c8 c10 c9 c12 c13 c11 c6 c7 w
end Go.Proofs.Ytaajliecbchklab
