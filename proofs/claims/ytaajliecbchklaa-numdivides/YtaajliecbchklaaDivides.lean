/- The walk of the law NumDivides: for every two numbers of 64 bits it answers true. -/
import Derived.Test.YtaajliecbchklaaBegun
namespace Go.Proofs.Ytaajliecbchklaa
open Go.RowKit
set_option linter.unusedVariables false

theorem wrap_back {q y r x : Int} (h : y * q + r = x) (hx : -9223372036854775808 ≤ x ∧ x ≤ 9223372036854775807) : (wrap64 (wrap64 (q * y) + r) == x) = true := by
  rw [Int.mul_comm] at h
  generalize q * y = p at h
  simp only [beq_iff_eq]
  unfold wrap64
  omega

theorem divides_walk (x y : Int) (hx : inr x = true) (hy : inr y = true) (w : World) :
    Calls Try.prog 5 #[.int .i64 x, .int .i64 y] w fun e w' => e = .returned (.bool true) ∧ ∃ n, w' = w.drewN n := by
  have c1 := fun w => dyad4 x y hx hy w
  have c2 := fun w => dyad5 y x hy hx w
  rw [inr_iff] at hx hy
  by_cases h0 : y = 0
  · subst h0
    rw [show divN x 0 = 0 from rfl, show divE x 0 = 10 from rfl] at c1
    rw [Int.fmod_zero] at c2
    go_enter Try.func5, Try.ntmps5
    go_wp2_with (first | (go_at_call 8; refine (begun_any _).mono ?_; rintro e w' ⟨rfl, n, rfl⟩) | (go_at_call 14; (with_reducible refine (c1 _).mono ?_); rintro e w' ⟨rfl, rfl⟩) | (go_at_call 14; (with_reducible refine (c2 _).mono ?_); rintro e w' ⟨rfl, rfl⟩))
    go_ret
    exact ⟨rfl, _, rfl⟩
  have eN : divN x y = cut (x.fdiv y) := by unfold divN; rw [if_neg h0]
  have eE : divE x y = ovr (x.fdiv y) := by unfold divE; rw [if_neg h0]
  rw [eN, eE] at c1
  clear eN eE
  by_cases c : x = -9223372036854775808 ∧ y = -1
  · obtain ⟨rfl, rfl⟩ := c
    rw [show cut ((-9223372036854775808 : Int).fdiv (-1)) = 0 from rfl, show ovr ((-9223372036854775808 : Int).fdiv (-1)) = 14 from rfl] at c1
    rw [show (-9223372036854775808 : Int).fmod (-1) = 0 from rfl] at c2
    go_enter Try.func5, Try.ntmps5
    go_wp2_with (first | (go_at_call 8; refine (begun_any _).mono ?_; rintro e w' ⟨rfl, n, rfl⟩) | (go_at_call 14; (with_reducible refine (c1 _).mono ?_); rintro e w' ⟨rfl, rfl⟩) | (go_at_call 14; (with_reducible refine (c2 _).mono ?_); rintro e w' ⟨rfl, rfl⟩))
    go_ret
    exact ⟨rfl, _, rfl⟩
  have hi := inr_iff.2 (fdiv_inr hx h0 c)
  rw [cut_yes hi, ovr_yes hi] at c1
  have bpos := fun h => fmod_pos (y := x) (x := y) h
  have bneg := fun h => fmod_neg (y := x) (x := y) h
  have hb := wrap_back (Int.mul_fdiv_add_fmod x y) hx
  rw [inr_iff] at hi
  generalize x.fdiv y = q at c1 hb hi
  generalize x.fmod y = r at c2 hb bpos bneg
  have d4 : (x == -9223372036854775808 && y == -1) = false := by simp; omega
  rcases (show y < 0 ∨ 0 < y by omega) with hs | hs
  · have b := bneg hs
    clear bpos bneg
    have d1 : decide (0 < y) = false := by simp; omega
    have d2 : decide (y < 0) = true := by simp; omega
    have d3 : decide (0 < r) = false := by simp; omega
    have d5 : decide (r ≤ y) = false := by simp; omega
    rcases (show x ≤ -9223372036854775808 ∨ -9223372036854775808 < x by omega) with hm | hm
    · have d6 : (x == -9223372036854775808) = true := by simp; omega
      have d7 : (y == -1) = false := by simp; omega
      clear d4 c
      go_enter Try.func5, Try.ntmps5
      go_wp2_with (first | (go_at_call 8; refine (begun_any _).mono ?_; rintro e w' ⟨rfl, n, rfl⟩) | (go_at_call 14; (with_reducible refine (c1 _).mono ?_); rintro e w' ⟨rfl, rfl⟩) | (go_at_call 14; (with_reducible refine (c2 _).mono ?_); rintro e w' ⟨rfl, rfl⟩))
      go_ret
      exact ⟨rfl, _, rfl⟩
    · have d6 : (x == -9223372036854775808) = false := by simp; omega
      clear d4 c
      go_enter Try.func5, Try.ntmps5
      go_wp2_with (first | (go_at_call 8; refine (begun_any _).mono ?_; rintro e w' ⟨rfl, n, rfl⟩) | (go_at_call 14; (with_reducible refine (c1 _).mono ?_); rintro e w' ⟨rfl, rfl⟩) | (go_at_call 14; (with_reducible refine (c2 _).mono ?_); rintro e w' ⟨rfl, rfl⟩))
      go_ret
      exact ⟨rfl, _, rfl⟩
  · have b := bpos hs
    clear bpos bneg
    have d1 : decide (0 < y) = true := by simp; omega
    have d2 : decide (y < 0) = false := by simp; omega
    have d3 : decide (r < 0) = false := by simp; omega
    have d5 : decide (y ≤ r) = false := by simp; omega
    have d7 : (y == -1) = false := by simp; omega
    clear d4 c
    rcases (show x ≤ -9223372036854775808 ∨ -9223372036854775808 < x by omega) with hm | hm
    · have d6 : (x == -9223372036854775808) = true := by simp; omega
      go_enter Try.func5, Try.ntmps5
      go_wp2_with (first | (go_at_call 8; refine (begun_any _).mono ?_; rintro e w' ⟨rfl, n, rfl⟩) | (go_at_call 14; (with_reducible refine (c1 _).mono ?_); rintro e w' ⟨rfl, rfl⟩) | (go_at_call 14; (with_reducible refine (c2 _).mono ?_); rintro e w' ⟨rfl, rfl⟩))
      go_ret
      exact ⟨rfl, _, rfl⟩
    · have d6 : (x == -9223372036854775808) = false := by simp; omega
      go_enter Try.func5, Try.ntmps5
      go_wp2_with (first | (go_at_call 8; refine (begun_any _).mono ?_; rintro e w' ⟨rfl, n, rfl⟩) | (go_at_call 14; (with_reducible refine (c1 _).mono ?_); rintro e w' ⟨rfl, rfl⟩) | (go_at_call 14; (with_reducible refine (c2 _).mono ?_); rintro e w' ⟨rfl, rfl⟩))
      go_ret
      exact ⟨rfl, _, rfl⟩
end Go.Proofs.Ytaajliecbchklaa
