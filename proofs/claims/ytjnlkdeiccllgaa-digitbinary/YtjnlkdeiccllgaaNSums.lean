
/- Contracts of package num's Add, Sub and Mul at int64: what a call answers, for every two numbers. -/

import Derived.Test.YtjnlkdeiccllgaaProg
import Derived.Test.YtjnlkdeiccllgaaNMath
import Derived.WalkKit
import Derived.WalkLawsBesides




namespace Go.Proofs.Ytjnlkdeiccllgaa.Nm

open Go.RowKit

theorem add64 (a b : Int) (ha : inr a = true) (hb : inr b = true) (w : World) :
    Calls Try.prog 39 #[.int .i64 a, .int .i64 b] w fun e w' => e = .returned (.tuple #[.int .i64 (cut (a + b)), .bool (inr (a + b))]) ∧ w' = w := by
  rw [inr_iff] at ha hb
  cases h : inr (a + b)
  · rw [cut_no h]
    rw [inr_no] at h
    have t : (!decide (a < wrap64 (a + b)) == decide (0 < b)) = true := by
      unfold wrap64
      by_cases p : 0 < b <;> simp [p] <;> omega
    go_enter Try.func39, Try.ntmps39
    go_wp2
    go_ret2
    exact ⟨rfl, rfl⟩
  · rw [cut_yes h]
    rw [inr_iff] at h
    have t : (!decide (a < a + b) == decide (0 < b)) = false := by
      by_cases p : 0 < b <;> simp [p] <;> omega
    go_enter Try.func39, Try.ntmps39
    go_wp2
    go_ret2
    exact ⟨rfl, rfl⟩

theorem sub64 (a b : Int) (ha : inr a = true) (hb : inr b = true) (w : World) :
    Calls Try.prog 44 #[.int .i64 a, .int .i64 b] w fun e w' => e = .returned (.tuple #[.int .i64 (cut (a - b)), .bool (inr (a - b))]) ∧ w' = w := by
  rw [inr_iff] at ha hb
  cases h : inr (a - b)
  · rw [cut_no h]
    rw [inr_no] at h
    have t : (!decide (wrap64 (a - b) < a) == decide (0 < b)) = true := by
      unfold wrap64
      by_cases p : 0 < b <;> simp [p] <;> omega
    go_enter Try.func44, Try.ntmps44
    go_wp2
    go_ret2
    exact ⟨rfl, rfl⟩
  · rw [cut_yes h]
    rw [inr_iff] at h
    have t : (!decide (a - b < a) == decide (0 < b)) = false := by
      by_cases p : 0 < b <;> simp [p] <;> omega
    go_enter Try.func44, Try.ntmps44
    go_wp2
    go_ret2
    exact ⟨rfl, rfl⟩

/-- 0 - b, as the walk spells it. -/
theorem neg64 (b : Int) (hb : inr b = true) (w : World) :
    Calls Try.prog 44 #[.int .i64 0, .int .i64 b] w fun e w' => e = .returned (.tuple #[.int .i64 (cut (-b)), .bool (inr (-b))]) ∧ w' = w := by
  have h := sub64 0 b rfl hb w
  rw [show (0 : Int) - b = -b by omega] at h
  exact h

theorem mul64 (a b : Int) (ha : inr a = true) (hb : inr b = true) (w : World) :
    Calls Try.prog 38 #[.int .i64 a, .int .i64 b] w fun e w' => e = .returned (.tuple #[.int .i64 (cut (a * b)), .bool (inr (a * b))]) ∧ w' = w := by
  have ha' := ha
  have hb' := hb
  rw [inr_iff] at ha hb
  by_cases c0 : a = 0
  · subst c0
    have e : inr ((0 : Int) * b) = true := by rw [Int.zero_mul]; rfl
    rw [cut_yes e, e, Int.zero_mul]
    go_enter Try.func38, Try.ntmps38
    go_wp2
    go_ret2
    exact ⟨rfl, rfl⟩
  by_cases c1 : a = -1
  · subst c1
    have e : (-1 : Int) * b = -b := by omega
    rw [e]
    clear e
    go_enter Try.func38, Try.ntmps38
    go_wp2_with (go_at_call 44; refine (neg64 _ hb' _).mono ?_; rintro e w' ⟨rfl, rfl⟩)
    go_ret2
    exact ⟨rfl, rfl⟩
  cases h : inr (a * b)
  · rw [cut_no h]
    rw [inr_no] at h
    have t := mul_other a b ha c0 c1 h
    go_enter Try.func38, Try.ntmps38
    go_wp2
    go_ret2
    exact ⟨rfl, rfl⟩
  · rw [cut_yes h]
    rw [inr_iff] at h
    have t := mul_back a b c0
    go_enter Try.func38, Try.ntmps38
    go_wp2
    go_ret2
    exact ⟨rfl, rfl⟩
end Go.Proofs.Ytjnlkdeiccllgaa.Nm
