/- The walk of the law NumPowers: for every number of 64 bits and every two exponents of 8 bits it answers true. -/
import Derived.Test.YtaajliecbchklaaBegun
namespace Go.Proofs.Ytaajliecbchklaa
open Go.RowKit
set_option linter.unusedVariables false

theorem powN_at (x k : Int) (h : 0 ≤ k) : powN x k = cut (x ^ k.toNat) := by unfold powN; rw [if_pos h]
theorem powE_at (x k : Int) (h : 0 ≤ k) : powE x k = ovr (x ^ k.toNat) := by unfold powE; rw [if_pos h]
theorem pow_near {x : Int} (h : ¬ (1 < x ∨ x < -1)) (k : Nat) : inr (x ^ k) = true := by
  rcases (show x = 1 ∨ x = -1 ∨ x = 0 by omega) with h | h | h <;> subst h
  · rw [one_pow']; rfl
  · rw [minus_pow]; split <;> rfl
  · rw [zero_pow']; cases (k == 0) <;> rfl
theorem powers_all (x a b p q r : Int) (hx : inr x = true) (ha : 0 ≤ a ∧ a ≤ 255) (hb : 0 ≤ b ∧ b ≤ 255)
    (cp : ∀ w, Calls Try.prog 14 #[.int .i64 20, .int .i64 x, .int .i64 a] w fun e w' => e = .returned (.tuple #[.int .i64 p, .int .i64 0]) ∧ w' = w)
    (cq : ∀ w, Calls Try.prog 14 #[.int .i64 20, .int .i64 x, .int .i64 b] w fun e w' => e = .returned (.tuple #[.int .i64 q, .int .i64 0]) ∧ w' = w)
    (cr : ∀ w, Calls Try.prog 14 #[.int .i64 20, .int .i64 x, .int .i64 (a + b)] w fun e w' => e = .returned (.tuple #[.int .i64 r, .int .i64 0]) ∧ w' = w)
    (c0 : ∀ w, Calls Try.prog 14 #[.int .i64 20, .int .i64 x, .int .i64 0] w fun e w' => e = .returned (.tuple #[.int .i64 1, .int .i64 0]) ∧ w' = w)
    (c1 : ∀ w, Calls Try.prog 14 #[.int .i64 20, .int .i64 x, .int .i64 1] w fun e w' => e = .returned (.tuple #[.int .i64 x, .int .i64 0]) ∧ w' = w)
    (cm : ∀ w, Calls Try.prog 17 #[.int .i64 p, .int .i64 q] w fun e w' => e = .returned (.tuple #[.int .i64 r, .bool true]) ∧ w' = w) (w : World) :
    Calls Try.prog 7 #[.int .i64 x, .int .u8 a, .int .u8 b] w fun e w' => e = .returned (.bool true) ∧ ∃ n, w' = w.drewN n := by
  clear hx
  go_enter Try.func7, Try.ntmps7
  go_wp2_with (first | (go_at_call 8; refine (begun_any _).mono ?_; rintro e w' ⟨rfl, n, rfl⟩) | (go_at_call 14; (with_reducible refine (cp _).mono ?_); rintro e w' ⟨rfl, rfl⟩) | (go_at_call 14; (with_reducible refine (cq _).mono ?_); rintro e w' ⟨rfl, rfl⟩) | (go_at_call 14; (with_reducible refine (cr _).mono ?_); rintro e w' ⟨rfl, rfl⟩) | (go_at_call 14; (with_reducible refine (c0 _).mono ?_); rintro e w' ⟨rfl, rfl⟩) | (go_at_call 14; (with_reducible refine (c1 _).mono ?_); rintro e w' ⟨rfl, rfl⟩) | (go_at_call 17; (with_reducible refine (cm _).mono ?_); rintro e w' ⟨rfl, rfl⟩))
  go_ret
  exact ⟨rfl, _, rfl⟩
theorem powers_0_0_14 (x a b p q r m : Int) (ok : Bool) (hg : 1 < x ∨ x < -1) (ha : 0 ≤ a ∧ a ≤ 255) (hb : 0 ≤ b ∧ b ≤ 255)
    (cp : ∀ w, Calls Try.prog 14 #[.int .i64 20, .int .i64 x, .int .i64 a] w fun e w' => e = .returned (.tuple #[.int .i64 p, .int .i64 0]) ∧ w' = w)
    (cq : ∀ w, Calls Try.prog 14 #[.int .i64 20, .int .i64 x, .int .i64 b] w fun e w' => e = .returned (.tuple #[.int .i64 q, .int .i64 0]) ∧ w' = w)
    (cr : ∀ w, Calls Try.prog 14 #[.int .i64 20, .int .i64 x, .int .i64 (a + b)] w fun e w' => e = .returned (.tuple #[.int .i64 r, .int .i64 14]) ∧ w' = w)
    (c0 : ∀ w, Calls Try.prog 14 #[.int .i64 20, .int .i64 x, .int .i64 0] w fun e w' => e = .returned (.tuple #[.int .i64 1, .int .i64 0]) ∧ w' = w)
    (c1 : ∀ w, Calls Try.prog 14 #[.int .i64 20, .int .i64 x, .int .i64 1] w fun e w' => e = .returned (.tuple #[.int .i64 x, .int .i64 0]) ∧ w' = w)
    (cm : ∀ w, Calls Try.prog 17 #[.int .i64 p, .int .i64 q] w fun e w' => e = .returned (.tuple #[.int .i64 m, .bool ok]) ∧ w' = w) (w : World) :
    Calls Try.prog 7 #[.int .i64 x, .int .u8 a, .int .u8 b] w fun e w' => e = .returned (.bool true) ∧ ∃ n, w' = w.drewN n := by
  rcases hg with hg | hg
  · have d1 : decide (1 < x) = true := by simpa using hg
    go_enter Try.func7, Try.ntmps7
    go_wp2_with (first | (go_at_call 8; refine (begun_any _).mono ?_; rintro e w' ⟨rfl, n, rfl⟩) | (go_at_call 14; (with_reducible refine (cp _).mono ?_); rintro e w' ⟨rfl, rfl⟩) | (go_at_call 14; (with_reducible refine (cq _).mono ?_); rintro e w' ⟨rfl, rfl⟩) | (go_at_call 14; (with_reducible refine (cr _).mono ?_); rintro e w' ⟨rfl, rfl⟩) | (go_at_call 14; (with_reducible refine (c0 _).mono ?_); rintro e w' ⟨rfl, rfl⟩) | (go_at_call 14; (with_reducible refine (c1 _).mono ?_); rintro e w' ⟨rfl, rfl⟩) | (go_at_call 17; (with_reducible refine (cm _).mono ?_); rintro e w' ⟨rfl, rfl⟩))
    go_ret
    exact ⟨rfl, _, rfl⟩
  · have d1 : decide (1 < x) = false := by simp; omega
    have d2 : decide (x < -1) = true := by simpa using hg
    go_enter Try.func7, Try.ntmps7
    go_wp2_with (first | (go_at_call 8; refine (begun_any _).mono ?_; rintro e w' ⟨rfl, n, rfl⟩) | (go_at_call 14; (with_reducible refine (cp _).mono ?_); rintro e w' ⟨rfl, rfl⟩) | (go_at_call 14; (with_reducible refine (cq _).mono ?_); rintro e w' ⟨rfl, rfl⟩) | (go_at_call 14; (with_reducible refine (cr _).mono ?_); rintro e w' ⟨rfl, rfl⟩) | (go_at_call 14; (with_reducible refine (c0 _).mono ?_); rintro e w' ⟨rfl, rfl⟩) | (go_at_call 14; (with_reducible refine (c1 _).mono ?_); rintro e w' ⟨rfl, rfl⟩) | (go_at_call 17; (with_reducible refine (cm _).mono ?_); rintro e w' ⟨rfl, rfl⟩))
    go_ret
    exact ⟨rfl, _, rfl⟩
theorem powers_0_14_0 (x a b p q r m : Int) (ok : Bool) (hg : 1 < x ∨ x < -1) (ha : 0 ≤ a ∧ a ≤ 255) (hb : 0 ≤ b ∧ b ≤ 255)
    (cp : ∀ w, Calls Try.prog 14 #[.int .i64 20, .int .i64 x, .int .i64 a] w fun e w' => e = .returned (.tuple #[.int .i64 p, .int .i64 0]) ∧ w' = w)
    (cq : ∀ w, Calls Try.prog 14 #[.int .i64 20, .int .i64 x, .int .i64 b] w fun e w' => e = .returned (.tuple #[.int .i64 q, .int .i64 14]) ∧ w' = w)
    (cr : ∀ w, Calls Try.prog 14 #[.int .i64 20, .int .i64 x, .int .i64 (a + b)] w fun e w' => e = .returned (.tuple #[.int .i64 r, .int .i64 0]) ∧ w' = w)
    (c0 : ∀ w, Calls Try.prog 14 #[.int .i64 20, .int .i64 x, .int .i64 0] w fun e w' => e = .returned (.tuple #[.int .i64 1, .int .i64 0]) ∧ w' = w)
    (c1 : ∀ w, Calls Try.prog 14 #[.int .i64 20, .int .i64 x, .int .i64 1] w fun e w' => e = .returned (.tuple #[.int .i64 x, .int .i64 0]) ∧ w' = w)
    (cm : ∀ w, Calls Try.prog 17 #[.int .i64 p, .int .i64 q] w fun e w' => e = .returned (.tuple #[.int .i64 m, .bool ok]) ∧ w' = w) (w : World) :
    Calls Try.prog 7 #[.int .i64 x, .int .u8 a, .int .u8 b] w fun e w' => e = .returned (.bool true) ∧ ∃ n, w' = w.drewN n := by
  rcases hg with hg | hg
  · have d1 : decide (1 < x) = true := by simpa using hg
    go_enter Try.func7, Try.ntmps7
    go_wp2_with (first | (go_at_call 8; refine (begun_any _).mono ?_; rintro e w' ⟨rfl, n, rfl⟩) | (go_at_call 14; (with_reducible refine (cp _).mono ?_); rintro e w' ⟨rfl, rfl⟩) | (go_at_call 14; (with_reducible refine (cq _).mono ?_); rintro e w' ⟨rfl, rfl⟩) | (go_at_call 14; (with_reducible refine (cr _).mono ?_); rintro e w' ⟨rfl, rfl⟩) | (go_at_call 14; (with_reducible refine (c0 _).mono ?_); rintro e w' ⟨rfl, rfl⟩) | (go_at_call 14; (with_reducible refine (c1 _).mono ?_); rintro e w' ⟨rfl, rfl⟩) | (go_at_call 17; (with_reducible refine (cm _).mono ?_); rintro e w' ⟨rfl, rfl⟩))
    go_ret
    exact ⟨rfl, _, rfl⟩
  · have d1 : decide (1 < x) = false := by simp; omega
    have d2 : decide (x < -1) = true := by simpa using hg
    go_enter Try.func7, Try.ntmps7
    go_wp2_with (first | (go_at_call 8; refine (begun_any _).mono ?_; rintro e w' ⟨rfl, n, rfl⟩) | (go_at_call 14; (with_reducible refine (cp _).mono ?_); rintro e w' ⟨rfl, rfl⟩) | (go_at_call 14; (with_reducible refine (cq _).mono ?_); rintro e w' ⟨rfl, rfl⟩) | (go_at_call 14; (with_reducible refine (cr _).mono ?_); rintro e w' ⟨rfl, rfl⟩) | (go_at_call 14; (with_reducible refine (c0 _).mono ?_); rintro e w' ⟨rfl, rfl⟩) | (go_at_call 14; (with_reducible refine (c1 _).mono ?_); rintro e w' ⟨rfl, rfl⟩) | (go_at_call 17; (with_reducible refine (cm _).mono ?_); rintro e w' ⟨rfl, rfl⟩))
    go_ret
    exact ⟨rfl, _, rfl⟩
theorem powers_0_14_14 (x a b p q r m : Int) (ok : Bool) (hg : 1 < x ∨ x < -1) (ha : 0 ≤ a ∧ a ≤ 255) (hb : 0 ≤ b ∧ b ≤ 255)
    (cp : ∀ w, Calls Try.prog 14 #[.int .i64 20, .int .i64 x, .int .i64 a] w fun e w' => e = .returned (.tuple #[.int .i64 p, .int .i64 0]) ∧ w' = w)
    (cq : ∀ w, Calls Try.prog 14 #[.int .i64 20, .int .i64 x, .int .i64 b] w fun e w' => e = .returned (.tuple #[.int .i64 q, .int .i64 14]) ∧ w' = w)
    (cr : ∀ w, Calls Try.prog 14 #[.int .i64 20, .int .i64 x, .int .i64 (a + b)] w fun e w' => e = .returned (.tuple #[.int .i64 r, .int .i64 14]) ∧ w' = w)
    (c0 : ∀ w, Calls Try.prog 14 #[.int .i64 20, .int .i64 x, .int .i64 0] w fun e w' => e = .returned (.tuple #[.int .i64 1, .int .i64 0]) ∧ w' = w)
    (c1 : ∀ w, Calls Try.prog 14 #[.int .i64 20, .int .i64 x, .int .i64 1] w fun e w' => e = .returned (.tuple #[.int .i64 x, .int .i64 0]) ∧ w' = w)
    (cm : ∀ w, Calls Try.prog 17 #[.int .i64 p, .int .i64 q] w fun e w' => e = .returned (.tuple #[.int .i64 m, .bool ok]) ∧ w' = w) (w : World) :
    Calls Try.prog 7 #[.int .i64 x, .int .u8 a, .int .u8 b] w fun e w' => e = .returned (.bool true) ∧ ∃ n, w' = w.drewN n := by
  rcases hg with hg | hg
  · have d1 : decide (1 < x) = true := by simpa using hg
    go_enter Try.func7, Try.ntmps7
    go_wp2_with (first | (go_at_call 8; refine (begun_any _).mono ?_; rintro e w' ⟨rfl, n, rfl⟩) | (go_at_call 14; (with_reducible refine (cp _).mono ?_); rintro e w' ⟨rfl, rfl⟩) | (go_at_call 14; (with_reducible refine (cq _).mono ?_); rintro e w' ⟨rfl, rfl⟩) | (go_at_call 14; (with_reducible refine (cr _).mono ?_); rintro e w' ⟨rfl, rfl⟩) | (go_at_call 14; (with_reducible refine (c0 _).mono ?_); rintro e w' ⟨rfl, rfl⟩) | (go_at_call 14; (with_reducible refine (c1 _).mono ?_); rintro e w' ⟨rfl, rfl⟩) | (go_at_call 17; (with_reducible refine (cm _).mono ?_); rintro e w' ⟨rfl, rfl⟩))
    go_ret
    exact ⟨rfl, _, rfl⟩
  · have d1 : decide (1 < x) = false := by simp; omega
    have d2 : decide (x < -1) = true := by simpa using hg
    go_enter Try.func7, Try.ntmps7
    go_wp2_with (first | (go_at_call 8; refine (begun_any _).mono ?_; rintro e w' ⟨rfl, n, rfl⟩) | (go_at_call 14; (with_reducible refine (cp _).mono ?_); rintro e w' ⟨rfl, rfl⟩) | (go_at_call 14; (with_reducible refine (cq _).mono ?_); rintro e w' ⟨rfl, rfl⟩) | (go_at_call 14; (with_reducible refine (cr _).mono ?_); rintro e w' ⟨rfl, rfl⟩) | (go_at_call 14; (with_reducible refine (c0 _).mono ?_); rintro e w' ⟨rfl, rfl⟩) | (go_at_call 14; (with_reducible refine (c1 _).mono ?_); rintro e w' ⟨rfl, rfl⟩) | (go_at_call 17; (with_reducible refine (cm _).mono ?_); rintro e w' ⟨rfl, rfl⟩))
    go_ret
    exact ⟨rfl, _, rfl⟩
theorem powers_14_0_0 (x a b p q r m : Int) (ok : Bool) (hg : 1 < x ∨ x < -1) (ha : 0 ≤ a ∧ a ≤ 255) (hb : 0 ≤ b ∧ b ≤ 255)
    (cp : ∀ w, Calls Try.prog 14 #[.int .i64 20, .int .i64 x, .int .i64 a] w fun e w' => e = .returned (.tuple #[.int .i64 p, .int .i64 14]) ∧ w' = w)
    (cq : ∀ w, Calls Try.prog 14 #[.int .i64 20, .int .i64 x, .int .i64 b] w fun e w' => e = .returned (.tuple #[.int .i64 q, .int .i64 0]) ∧ w' = w)
    (cr : ∀ w, Calls Try.prog 14 #[.int .i64 20, .int .i64 x, .int .i64 (a + b)] w fun e w' => e = .returned (.tuple #[.int .i64 r, .int .i64 0]) ∧ w' = w)
    (c0 : ∀ w, Calls Try.prog 14 #[.int .i64 20, .int .i64 x, .int .i64 0] w fun e w' => e = .returned (.tuple #[.int .i64 1, .int .i64 0]) ∧ w' = w)
    (c1 : ∀ w, Calls Try.prog 14 #[.int .i64 20, .int .i64 x, .int .i64 1] w fun e w' => e = .returned (.tuple #[.int .i64 x, .int .i64 0]) ∧ w' = w)
    (cm : ∀ w, Calls Try.prog 17 #[.int .i64 p, .int .i64 q] w fun e w' => e = .returned (.tuple #[.int .i64 m, .bool ok]) ∧ w' = w) (w : World) :
    Calls Try.prog 7 #[.int .i64 x, .int .u8 a, .int .u8 b] w fun e w' => e = .returned (.bool true) ∧ ∃ n, w' = w.drewN n := by
  rcases hg with hg | hg
  · have d1 : decide (1 < x) = true := by simpa using hg
    go_enter Try.func7, Try.ntmps7
    go_wp2_with (first | (go_at_call 8; refine (begun_any _).mono ?_; rintro e w' ⟨rfl, n, rfl⟩) | (go_at_call 14; (with_reducible refine (cp _).mono ?_); rintro e w' ⟨rfl, rfl⟩) | (go_at_call 14; (with_reducible refine (cq _).mono ?_); rintro e w' ⟨rfl, rfl⟩) | (go_at_call 14; (with_reducible refine (cr _).mono ?_); rintro e w' ⟨rfl, rfl⟩) | (go_at_call 14; (with_reducible refine (c0 _).mono ?_); rintro e w' ⟨rfl, rfl⟩) | (go_at_call 14; (with_reducible refine (c1 _).mono ?_); rintro e w' ⟨rfl, rfl⟩) | (go_at_call 17; (with_reducible refine (cm _).mono ?_); rintro e w' ⟨rfl, rfl⟩))
    go_ret
    exact ⟨rfl, _, rfl⟩
  · have d1 : decide (1 < x) = false := by simp; omega
    have d2 : decide (x < -1) = true := by simpa using hg
    go_enter Try.func7, Try.ntmps7
    go_wp2_with (first | (go_at_call 8; refine (begun_any _).mono ?_; rintro e w' ⟨rfl, n, rfl⟩) | (go_at_call 14; (with_reducible refine (cp _).mono ?_); rintro e w' ⟨rfl, rfl⟩) | (go_at_call 14; (with_reducible refine (cq _).mono ?_); rintro e w' ⟨rfl, rfl⟩) | (go_at_call 14; (with_reducible refine (cr _).mono ?_); rintro e w' ⟨rfl, rfl⟩) | (go_at_call 14; (with_reducible refine (c0 _).mono ?_); rintro e w' ⟨rfl, rfl⟩) | (go_at_call 14; (with_reducible refine (c1 _).mono ?_); rintro e w' ⟨rfl, rfl⟩) | (go_at_call 17; (with_reducible refine (cm _).mono ?_); rintro e w' ⟨rfl, rfl⟩))
    go_ret
    exact ⟨rfl, _, rfl⟩
theorem powers_14_0_14 (x a b p q r m : Int) (ok : Bool) (hg : 1 < x ∨ x < -1) (ha : 0 ≤ a ∧ a ≤ 255) (hb : 0 ≤ b ∧ b ≤ 255)
    (cp : ∀ w, Calls Try.prog 14 #[.int .i64 20, .int .i64 x, .int .i64 a] w fun e w' => e = .returned (.tuple #[.int .i64 p, .int .i64 14]) ∧ w' = w)
    (cq : ∀ w, Calls Try.prog 14 #[.int .i64 20, .int .i64 x, .int .i64 b] w fun e w' => e = .returned (.tuple #[.int .i64 q, .int .i64 0]) ∧ w' = w)
    (cr : ∀ w, Calls Try.prog 14 #[.int .i64 20, .int .i64 x, .int .i64 (a + b)] w fun e w' => e = .returned (.tuple #[.int .i64 r, .int .i64 14]) ∧ w' = w)
    (c0 : ∀ w, Calls Try.prog 14 #[.int .i64 20, .int .i64 x, .int .i64 0] w fun e w' => e = .returned (.tuple #[.int .i64 1, .int .i64 0]) ∧ w' = w)
    (c1 : ∀ w, Calls Try.prog 14 #[.int .i64 20, .int .i64 x, .int .i64 1] w fun e w' => e = .returned (.tuple #[.int .i64 x, .int .i64 0]) ∧ w' = w)
    (cm : ∀ w, Calls Try.prog 17 #[.int .i64 p, .int .i64 q] w fun e w' => e = .returned (.tuple #[.int .i64 m, .bool ok]) ∧ w' = w) (w : World) :
    Calls Try.prog 7 #[.int .i64 x, .int .u8 a, .int .u8 b] w fun e w' => e = .returned (.bool true) ∧ ∃ n, w' = w.drewN n := by
  rcases hg with hg | hg
  · have d1 : decide (1 < x) = true := by simpa using hg
    go_enter Try.func7, Try.ntmps7
    go_wp2_with (first | (go_at_call 8; refine (begun_any _).mono ?_; rintro e w' ⟨rfl, n, rfl⟩) | (go_at_call 14; (with_reducible refine (cp _).mono ?_); rintro e w' ⟨rfl, rfl⟩) | (go_at_call 14; (with_reducible refine (cq _).mono ?_); rintro e w' ⟨rfl, rfl⟩) | (go_at_call 14; (with_reducible refine (cr _).mono ?_); rintro e w' ⟨rfl, rfl⟩) | (go_at_call 14; (with_reducible refine (c0 _).mono ?_); rintro e w' ⟨rfl, rfl⟩) | (go_at_call 14; (with_reducible refine (c1 _).mono ?_); rintro e w' ⟨rfl, rfl⟩) | (go_at_call 17; (with_reducible refine (cm _).mono ?_); rintro e w' ⟨rfl, rfl⟩))
    go_ret
    exact ⟨rfl, _, rfl⟩
  · have d1 : decide (1 < x) = false := by simp; omega
    have d2 : decide (x < -1) = true := by simpa using hg
    go_enter Try.func7, Try.ntmps7
    go_wp2_with (first | (go_at_call 8; refine (begun_any _).mono ?_; rintro e w' ⟨rfl, n, rfl⟩) | (go_at_call 14; (with_reducible refine (cp _).mono ?_); rintro e w' ⟨rfl, rfl⟩) | (go_at_call 14; (with_reducible refine (cq _).mono ?_); rintro e w' ⟨rfl, rfl⟩) | (go_at_call 14; (with_reducible refine (cr _).mono ?_); rintro e w' ⟨rfl, rfl⟩) | (go_at_call 14; (with_reducible refine (c0 _).mono ?_); rintro e w' ⟨rfl, rfl⟩) | (go_at_call 14; (with_reducible refine (c1 _).mono ?_); rintro e w' ⟨rfl, rfl⟩) | (go_at_call 17; (with_reducible refine (cm _).mono ?_); rintro e w' ⟨rfl, rfl⟩))
    go_ret
    exact ⟨rfl, _, rfl⟩
theorem powers_14_14_0 (x a b p q r m : Int) (ok : Bool) (hg : 1 < x ∨ x < -1) (ha : 0 ≤ a ∧ a ≤ 255) (hb : 0 ≤ b ∧ b ≤ 255)
    (cp : ∀ w, Calls Try.prog 14 #[.int .i64 20, .int .i64 x, .int .i64 a] w fun e w' => e = .returned (.tuple #[.int .i64 p, .int .i64 14]) ∧ w' = w)
    (cq : ∀ w, Calls Try.prog 14 #[.int .i64 20, .int .i64 x, .int .i64 b] w fun e w' => e = .returned (.tuple #[.int .i64 q, .int .i64 14]) ∧ w' = w)
    (cr : ∀ w, Calls Try.prog 14 #[.int .i64 20, .int .i64 x, .int .i64 (a + b)] w fun e w' => e = .returned (.tuple #[.int .i64 r, .int .i64 0]) ∧ w' = w)
    (c0 : ∀ w, Calls Try.prog 14 #[.int .i64 20, .int .i64 x, .int .i64 0] w fun e w' => e = .returned (.tuple #[.int .i64 1, .int .i64 0]) ∧ w' = w)
    (c1 : ∀ w, Calls Try.prog 14 #[.int .i64 20, .int .i64 x, .int .i64 1] w fun e w' => e = .returned (.tuple #[.int .i64 x, .int .i64 0]) ∧ w' = w)
    (cm : ∀ w, Calls Try.prog 17 #[.int .i64 p, .int .i64 q] w fun e w' => e = .returned (.tuple #[.int .i64 m, .bool ok]) ∧ w' = w) (w : World) :
    Calls Try.prog 7 #[.int .i64 x, .int .u8 a, .int .u8 b] w fun e w' => e = .returned (.bool true) ∧ ∃ n, w' = w.drewN n := by
  rcases hg with hg | hg
  · have d1 : decide (1 < x) = true := by simpa using hg
    go_enter Try.func7, Try.ntmps7
    go_wp2_with (first | (go_at_call 8; refine (begun_any _).mono ?_; rintro e w' ⟨rfl, n, rfl⟩) | (go_at_call 14; (with_reducible refine (cp _).mono ?_); rintro e w' ⟨rfl, rfl⟩) | (go_at_call 14; (with_reducible refine (cq _).mono ?_); rintro e w' ⟨rfl, rfl⟩) | (go_at_call 14; (with_reducible refine (cr _).mono ?_); rintro e w' ⟨rfl, rfl⟩) | (go_at_call 14; (with_reducible refine (c0 _).mono ?_); rintro e w' ⟨rfl, rfl⟩) | (go_at_call 14; (with_reducible refine (c1 _).mono ?_); rintro e w' ⟨rfl, rfl⟩) | (go_at_call 17; (with_reducible refine (cm _).mono ?_); rintro e w' ⟨rfl, rfl⟩))
    go_ret
    exact ⟨rfl, _, rfl⟩
  · have d1 : decide (1 < x) = false := by simp; omega
    have d2 : decide (x < -1) = true := by simpa using hg
    go_enter Try.func7, Try.ntmps7
    go_wp2_with (first | (go_at_call 8; refine (begun_any _).mono ?_; rintro e w' ⟨rfl, n, rfl⟩) | (go_at_call 14; (with_reducible refine (cp _).mono ?_); rintro e w' ⟨rfl, rfl⟩) | (go_at_call 14; (with_reducible refine (cq _).mono ?_); rintro e w' ⟨rfl, rfl⟩) | (go_at_call 14; (with_reducible refine (cr _).mono ?_); rintro e w' ⟨rfl, rfl⟩) | (go_at_call 14; (with_reducible refine (c0 _).mono ?_); rintro e w' ⟨rfl, rfl⟩) | (go_at_call 14; (with_reducible refine (c1 _).mono ?_); rintro e w' ⟨rfl, rfl⟩) | (go_at_call 17; (with_reducible refine (cm _).mono ?_); rintro e w' ⟨rfl, rfl⟩))
    go_ret
    exact ⟨rfl, _, rfl⟩
theorem powers_14_14_14 (x a b p q r m : Int) (ok : Bool) (hg : 1 < x ∨ x < -1) (ha : 0 ≤ a ∧ a ≤ 255) (hb : 0 ≤ b ∧ b ≤ 255)
    (cp : ∀ w, Calls Try.prog 14 #[.int .i64 20, .int .i64 x, .int .i64 a] w fun e w' => e = .returned (.tuple #[.int .i64 p, .int .i64 14]) ∧ w' = w)
    (cq : ∀ w, Calls Try.prog 14 #[.int .i64 20, .int .i64 x, .int .i64 b] w fun e w' => e = .returned (.tuple #[.int .i64 q, .int .i64 14]) ∧ w' = w)
    (cr : ∀ w, Calls Try.prog 14 #[.int .i64 20, .int .i64 x, .int .i64 (a + b)] w fun e w' => e = .returned (.tuple #[.int .i64 r, .int .i64 14]) ∧ w' = w)
    (c0 : ∀ w, Calls Try.prog 14 #[.int .i64 20, .int .i64 x, .int .i64 0] w fun e w' => e = .returned (.tuple #[.int .i64 1, .int .i64 0]) ∧ w' = w)
    (c1 : ∀ w, Calls Try.prog 14 #[.int .i64 20, .int .i64 x, .int .i64 1] w fun e w' => e = .returned (.tuple #[.int .i64 x, .int .i64 0]) ∧ w' = w)
    (cm : ∀ w, Calls Try.prog 17 #[.int .i64 p, .int .i64 q] w fun e w' => e = .returned (.tuple #[.int .i64 m, .bool ok]) ∧ w' = w) (w : World) :
    Calls Try.prog 7 #[.int .i64 x, .int .u8 a, .int .u8 b] w fun e w' => e = .returned (.bool true) ∧ ∃ n, w' = w.drewN n := by
  rcases hg with hg | hg
  · have d1 : decide (1 < x) = true := by simpa using hg
    go_enter Try.func7, Try.ntmps7
    go_wp2_with (first | (go_at_call 8; refine (begun_any _).mono ?_; rintro e w' ⟨rfl, n, rfl⟩) | (go_at_call 14; (with_reducible refine (cp _).mono ?_); rintro e w' ⟨rfl, rfl⟩) | (go_at_call 14; (with_reducible refine (cq _).mono ?_); rintro e w' ⟨rfl, rfl⟩) | (go_at_call 14; (with_reducible refine (cr _).mono ?_); rintro e w' ⟨rfl, rfl⟩) | (go_at_call 14; (with_reducible refine (c0 _).mono ?_); rintro e w' ⟨rfl, rfl⟩) | (go_at_call 14; (with_reducible refine (c1 _).mono ?_); rintro e w' ⟨rfl, rfl⟩) | (go_at_call 17; (with_reducible refine (cm _).mono ?_); rintro e w' ⟨rfl, rfl⟩))
    go_ret
    exact ⟨rfl, _, rfl⟩
  · have d1 : decide (1 < x) = false := by simp; omega
    have d2 : decide (x < -1) = true := by simpa using hg
    go_enter Try.func7, Try.ntmps7
    go_wp2_with (first | (go_at_call 8; refine (begun_any _).mono ?_; rintro e w' ⟨rfl, n, rfl⟩) | (go_at_call 14; (with_reducible refine (cp _).mono ?_); rintro e w' ⟨rfl, rfl⟩) | (go_at_call 14; (with_reducible refine (cq _).mono ?_); rintro e w' ⟨rfl, rfl⟩) | (go_at_call 14; (with_reducible refine (cr _).mono ?_); rintro e w' ⟨rfl, rfl⟩) | (go_at_call 14; (with_reducible refine (c0 _).mono ?_); rintro e w' ⟨rfl, rfl⟩) | (go_at_call 14; (with_reducible refine (c1 _).mono ?_); rintro e w' ⟨rfl, rfl⟩) | (go_at_call 17; (with_reducible refine (cm _).mono ?_); rintro e w' ⟨rfl, rfl⟩))
    go_ret
    exact ⟨rfl, _, rfl⟩
theorem powers_walk (x a b : Int) (hx : inr x = true) (ha : 0 ≤ a ∧ a ≤ 255) (hb : 0 ≤ b ∧ b ≤ 255) (w : World) :
    Calls Try.prog 7 #[.int .i64 x, .int .u8 a, .int .u8 b] w fun e w' => e = .returned (.bool true) ∧ ∃ n, w' = w.drewN n := by
  have ia : inr a = true := inr_iff.2 (by omega)
  have ib : inr b = true := inr_iff.2 (by omega)
  have iab : inr (a + b) = true := inr_iff.2 (by omega)
  have cp := fun w => dyad20 x a hx ia w
  have cq := fun w => dyad20 x b hx ib w
  have cr := fun w => dyad20 x (a + b) hx iab w
  have c0 := fun w => dyad20 x 0 hx rfl w
  have c1 := fun w => dyad20 x 1 hx rfl w
  rw [powN_at x 0 (by omega), powE_at x 0 (by omega), show x ^ (0 : Int).toNat = 1 from Int.pow_zero x] at c0
  rw [powN_at x 1 (by omega), powE_at x 1 (by omega), show x ^ (1 : Int).toNat = x by rw [show (1 : Int).toNat = 0 + 1 from rfl, Int.pow_succ, Int.pow_zero, Int.one_mul], cut_yes hx, ovr_yes hx] at c1
  rw [powN_at x a ha.1, powE_at x a ha.1] at cp
  rw [powN_at x b hb.1, powE_at x b hb.1] at cq
  rw [powN_at x (a + b) (by omega), powE_at x (a + b) (by omega)] at cr
  have hadd : x ^ a.toNat * x ^ b.toNat = x ^ (a + b).toNat := by rw [← Int.pow_add]; congr 1; omega
  have big : (inr (x ^ a.toNat) = false ∨ inr (x ^ b.toNat) = false ∨ inr (x ^ (a + b).toNat) = false) → 1 < x ∨ x < -1 := by
    intro h
    apply Classical.byContradiction
    intro hn
    have h1 := pow_near hn a.toNat
    have h2 := pow_near hn b.toNat
    have h3 := pow_near hn (a + b).toNat
    rw [h1, h2, h3] at h
    simp at h
  cases h1 : inr (x ^ a.toNat)
  all_goals cases h2 : inr (x ^ b.toNat)
  all_goals cases h3 : inr (x ^ (a + b).toNat)
  · rw [cut_no h1, ovr_no h1] at cp
    rw [cut_no h2, ovr_no h2] at cq
    rw [cut_no h3, ovr_no h3] at cr
    have cm := fun w => mul64 0 0 rfl rfl w
    exact powers_14_14_14 x a b _ _ _ _ _ (big (by simp [h1, h2, h3])) ha hb cp cq cr c0 c1 cm w
  · rw [cut_no h1, ovr_no h1] at cp
    rw [cut_no h2, ovr_no h2] at cq
    rw [cut_yes h3, ovr_yes h3] at cr
    have cm := fun w => mul64 0 0 rfl rfl w
    exact powers_14_14_0 x a b _ _ _ _ _ (big (by simp [h1, h2, h3])) ha hb cp cq cr c0 c1 cm w
  · rw [cut_no h1, ovr_no h1] at cp
    rw [cut_yes h2, ovr_yes h2] at cq
    rw [cut_no h3, ovr_no h3] at cr
    have cm := fun w => mul64 0 _ rfl h2 w
    exact powers_14_0_14 x a b _ _ _ _ _ (big (by simp [h1, h2, h3])) ha hb cp cq cr c0 c1 cm w
  · rw [cut_no h1, ovr_no h1] at cp
    rw [cut_yes h2, ovr_yes h2] at cq
    rw [cut_yes h3, ovr_yes h3] at cr
    have cm := fun w => mul64 0 _ rfl h2 w
    exact powers_14_0_0 x a b _ _ _ _ _ (big (by simp [h1, h2, h3])) ha hb cp cq cr c0 c1 cm w
  · rw [cut_yes h1, ovr_yes h1] at cp
    rw [cut_no h2, ovr_no h2] at cq
    rw [cut_no h3, ovr_no h3] at cr
    have cm := fun w => mul64 _ 0 h1 rfl w
    exact powers_0_14_14 x a b _ _ _ _ _ (big (by simp [h1, h2, h3])) ha hb cp cq cr c0 c1 cm w
  · rw [cut_yes h1, ovr_yes h1] at cp
    rw [cut_no h2, ovr_no h2] at cq
    rw [cut_yes h3, ovr_yes h3] at cr
    have cm := fun w => mul64 _ 0 h1 rfl w
    exact powers_0_14_0 x a b _ _ _ _ _ (big (by simp [h1, h2, h3])) ha hb cp cq cr c0 c1 cm w
  · rw [cut_yes h1, ovr_yes h1] at cp
    rw [cut_yes h2, ovr_yes h2] at cq
    rw [cut_no h3, ovr_no h3] at cr
    have cm := fun w => mul64 _ _ h1 h2 w
    exact powers_0_0_14 x a b _ _ _ _ _ (big (by simp [h1, h2, h3])) ha hb cp cq cr c0 c1 cm w
  · rw [cut_yes h1, ovr_yes h1] at cp
    rw [cut_yes h2, ovr_yes h2] at cq
    rw [cut_yes h3, ovr_yes h3] at cr
    have cm := fun w => mul64 _ _ h1 h2 w
    rw [hadd, h3, cut_yes h3] at cm
    exact powers_all x a b _ _ _ hx ha hb cp cq cr c0 c1 cm w
end Go.Proofs.Ytaajliecbchklaa
