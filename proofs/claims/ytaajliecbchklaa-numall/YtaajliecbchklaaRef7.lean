/- Contracts of the document's own answer (abacusref1), the last rows of Dyad; every op that is none of the table's; and both answers together: what package num answers the document answers. -/
import Derived.Test.YtaajliecbchklaaRef6
import Derived.Test.YtaajliecbchklaaTable21
namespace Go.Proofs.Ytaajliecbchklaa
open Go.RowKit
set_option linter.unusedVariables false

set_option maxRecDepth 20000 in
theorem rDyad15 (x y : Int) (hx : inr x = true) (hy : inr y = true) (w : World) :
    Calls Try.prog 20 #[.int .i64 15, .int .i64 x, .int .i64 y] w fun e w' => e = .returned (.tuple #[.int .i64 (cut ((Nat.lcm x.natAbs y.natAbs : Nat))), .int .i64 (ovr ((Nat.lcm x.natAbs y.natAbs : Nat)))]) ∧ ∃ n, w' = w.drewN n := by
  have hx' := hx
  have hy' := hy
  rw [inr_iff] at hx hy
  by_cases c0 : x = 0
  · subst c0
    rw [show Nat.lcm (0 : Int).natAbs y.natAbs = 0 from Nat.lcm_zero_left _]
    go_enter Try.func20, Try.ntmps20
    go_wp2
    go_ret2
    exact ⟨rfl, 0, rfl⟩
  by_cases c1 : y = 0
  · subst c1
    rw [show Nat.lcm x.natAbs (0 : Int).natAbs = 0 from Nat.lcm_zero_right _]
    have b0 : (x == 0) = false := by simp [c0]
    go_enter Try.func20, Try.ntmps20
    go_wp2
    go_ret2
    exact ⟨rfl, 0, rfl⟩
  have b0 : (x == 0) = false := by simp [c0]
  have b1 : (y == 0) = false := by simp [c1]
  have hax : x.natAbs < 18446744073709551616 := by omega
  have hay : y.natAbs < 18446744073709551616 := by omega
  have hg : 0 < Nat.gcd x.natAbs y.natAbs := Nat.gcd_pos_of_pos_left _ (by omega)
  have hd : x.natAbs / Nat.gcd x.natAbs y.natAbs < 18446744073709551616 := Nat.lt_of_le_of_lt (Nat.div_le_self _ _) hax
  have q1 : (x.natAbs : Int) / (Nat.gcd x.natAbs y.natAbs : Nat) = ((x.natAbs / Nat.gcd x.natAbs y.natAbs : Nat) : Int) := (Int.natCast_ediv _ _).symm
  have lc := lcm_div (a := x.natAbs) (b := y.natAbs)
  have cc := fun w => rCommon x.natAbs y.natAbs hax hay w
  have sx := fun w => rSize x hx' w
  have sy := fun w => rSize y hy' w
  generalize x.natAbs = A at *
  generalize y.natAbs = B at *
  generalize Nat.gcd A B = G at *
  generalize A / G = Q at *
  generalize Nat.lcm A B = L at *
  have hG0 : ((G : Int) == 0) = false := by simp; omega
  by_cases c2 : L < 18446744073709551616
  · have cp := fun w => rProductYes Q B hd hay (by rw [lc]; exact c2) w
    rw [lc] at cp
    have cs := fun w => rSigned false L c2 w
    rw [show sgd false L = (L : Int) from rfl] at cs
    clear lc
    go_enter Try.func20, Try.ntmps20
    go_wp2_with go_in
    go_quiet ((first | (go_at_call 55; with_reducible exact Calls.quiet_of_same (sx _)) | (go_at_call 55; with_reducible exact Calls.quiet_of_same (sy _)) | (go_at_call 60; exact Calls.quiet_of (cc _)) | (go_at_call 61; exact Calls.quiet_of_same (cp _))))
    go_wp2_with (first | (go_at_call 54; refine (cs _).mono ?_; rintro e w' ⟨rfl, rfl⟩) | go_in)
    go_ret2
    exact ⟨rfl, _, rfl⟩
  · have cp := fun w => rProductNo Q B hd hay (by rw [lc]; omega) w
    have c3 : inr (L : Nat) = false := inr_no.2 (by omega)
    rw [cut_no c3, ovr_no c3]
    clear lc c3
    go_enter Try.func20, Try.ntmps20
    go_wp2_with go_in
    go_quiet ((first | (go_at_call 55; with_reducible exact Calls.quiet_of_same (sx _)) | (go_at_call 55; with_reducible exact Calls.quiet_of_same (sy _)) | (go_at_call 60; exact Calls.quiet_of (cc _)) | (go_at_call 61; exact Calls.quiet_of_same (cp _))))
    go_wp2_with go_in
    go_ret2
    exact ⟨rfl, _, rfl⟩
set_option maxRecDepth 20000 in
theorem rDyad16 (x y : Int) (hx : inr x = true) (hy : inr y = true) (w : World) :
    Calls Try.prog 20 #[.int .i64 16, .int .i64 x, .int .i64 y] w fun e w' => e = .returned (.tuple #[.int .i64 (norN x y), .int .i64 (bitE x y)]) ∧ w' = w := by
  clear hx hy
  by_cases x0 : x = 0 ∨ x = 1
  · by_cases y0 : y = 0 ∨ y = 1
    · rcases x0 with x0 | x0 <;> rcases y0 with y0 | y0 <;> subst x0 y0
      all_goals
        go_enter Try.func20, Try.ntmps20
        go_wp2
        go_ret2
        exact ⟨rfl, rfl⟩
    · have t1 : (y == 0) = false := by simp; omega
      have t2 : (y == 1) = false := by simp; omega
      have e : isT y = false := by unfold isT; rw [t1, t2]; rfl
      have e1 : norN x y = 0 := by unfold norN bitB; simp [e]
      have e2 : bitE x y = 10 := by unfold bitE bitB; simp [e]
      rw [e1, e2]
      clear e e1 e2 y0
      rcases x0 with x0 | x0 <;> subst x0
      all_goals
        go_enter Try.func20, Try.ntmps20
        go_wp2
        go_ret2
        exact ⟨rfl, rfl⟩
  · have t1 : (x == 0) = false := by simp; omega
    have t2 : (x == 1) = false := by simp; omega
    have e : isT x = false := by unfold isT; rw [t1, t2]; rfl
    have e1 : norN x y = 0 := by unfold norN bitB; simp [e]
    have e2 : bitE x y = 10 := by unfold bitE bitB; simp [e]
    rw [e1, e2]
    clear e e1 e2 x0
    go_enter Try.func20, Try.ntmps20
    go_wp2
    go_ret2
    exact ⟨rfl, rfl⟩
set_option maxRecDepth 20000 in
theorem rDyad17 (x y : Int) (hx : inr x = true) (hy : inr y = true) (w : World) :
    Calls Try.prog 20 #[.int .i64 17, .int .i64 x, .int .i64 y] w fun e w' => e = .returned (.tuple #[.int .i64 (nandN x y), .int .i64 (bitE x y)]) ∧ w' = w := by
  clear hx hy
  by_cases x0 : x = 0 ∨ x = 1
  · by_cases y0 : y = 0 ∨ y = 1
    · rcases x0 with x0 | x0 <;> rcases y0 with y0 | y0 <;> subst x0 y0
      all_goals
        go_enter Try.func20, Try.ntmps20
        go_wp2
        go_ret2
        exact ⟨rfl, rfl⟩
    · have t1 : (y == 0) = false := by simp; omega
      have t2 : (y == 1) = false := by simp; omega
      have e : isT y = false := by unfold isT; rw [t1, t2]; rfl
      have e1 : nandN x y = 0 := by unfold nandN bitB; simp [e]
      have e2 : bitE x y = 10 := by unfold bitE bitB; simp [e]
      rw [e1, e2]
      clear e e1 e2 y0
      rcases x0 with x0 | x0 <;> subst x0
      all_goals
        go_enter Try.func20, Try.ntmps20
        go_wp2
        go_ret2
        exact ⟨rfl, rfl⟩
  · have t1 : (x == 0) = false := by simp; omega
    have t2 : (x == 1) = false := by simp; omega
    have e : isT x = false := by unfold isT; rw [t1, t2]; rfl
    have e1 : nandN x y = 0 := by unfold nandN bitB; simp [e]
    have e2 : bitE x y = 10 := by unfold bitE bitB; simp [e]
    rw [e1, e2]
    clear e e1 e2 x0
    go_enter Try.func20, Try.ntmps20
    go_wp2
    go_ret2
    exact ⟨rfl, rfl⟩
set_option maxRecDepth 20000 in
theorem monadOther_lo (op y : Int) (h : op < 1) (w : World) :
    Calls Try.prog 16 #[.int .i64 op, .int .i64 y] w fun e w' => e = .returned (.tuple #[.int .i64 0, .int .i64 1]) ∧ w' = w := by
  have t1 : (op == 1) = false := by simp; omega
  have t2 : (op == 2) = false := by simp; omega
  have t3 : (op == 3) = false := by simp; omega
  have t4 : (op == 4) = false := by simp; omega
  have t5 : (op == 5) = false := by simp; omega
  have t6 : (op == 6) = false := by simp; omega
  have t7 : (op == 7) = false := by simp; omega
  have t8 : (op == 8) = false := by simp; omega
  have t9 : (op == 9) = false := by simp; omega
  have t10 : (op == 10) = false := by simp; omega
  have t11 : (op == 11) = false := by simp; omega
  have t12 : (op == 12) = false := by simp; omega
  have t13 : (op == 13) = false := by simp; omega
  have t14 : (op == 14) = false := by simp; omega
  have t15 : (op == 15) = false := by simp; omega
  have t16 : (op == 16) = false := by simp; omega
  have t17 : (op == 17) = false := by simp; omega
  have t18 : (op == 18) = false := by simp; omega
  have t19 : (op == 19) = false := by simp; omega
  have t20 : (op == 20) = false := by simp; omega
  have t21 : (op == 21) = false := by simp; omega
  go_enter Try.func16, Try.ntmps16
  go_wp2
  go_ret2
  exact ⟨rfl, rfl⟩
set_option maxRecDepth 20000 in
theorem monadOther_hi (op y : Int) (h : 21 < op) (w : World) :
    Calls Try.prog 16 #[.int .i64 op, .int .i64 y] w fun e w' => e = .returned (.tuple #[.int .i64 0, .int .i64 1]) ∧ w' = w := by
  have t1 : (op == 1) = false := by simp; omega
  have t2 : (op == 2) = false := by simp; omega
  have t3 : (op == 3) = false := by simp; omega
  have t4 : (op == 4) = false := by simp; omega
  have t5 : (op == 5) = false := by simp; omega
  have t6 : (op == 6) = false := by simp; omega
  have t7 : (op == 7) = false := by simp; omega
  have t8 : (op == 8) = false := by simp; omega
  have t9 : (op == 9) = false := by simp; omega
  have t10 : (op == 10) = false := by simp; omega
  have t11 : (op == 11) = false := by simp; omega
  have t12 : (op == 12) = false := by simp; omega
  have t13 : (op == 13) = false := by simp; omega
  have t14 : (op == 14) = false := by simp; omega
  have t15 : (op == 15) = false := by simp; omega
  have t16 : (op == 16) = false := by simp; omega
  have t17 : (op == 17) = false := by simp; omega
  have t18 : (op == 18) = false := by simp; omega
  have t19 : (op == 19) = false := by simp; omega
  have t20 : (op == 20) = false := by simp; omega
  have t21 : (op == 21) = false := by simp; omega
  go_enter Try.func16, Try.ntmps16
  go_wp2
  go_ret2
  exact ⟨rfl, rfl⟩
set_option maxRecDepth 20000 in
theorem dyadOther_lo (op x y : Int) (h : op < 1) (w : World) :
    Calls Try.prog 14 #[.int .i64 op, .int .i64 x, .int .i64 y] w fun e w' => e = .returned (.tuple #[.int .i64 0, .int .i64 1]) ∧ w' = w := by
  have t1 : (op == 1) = false := by simp; omega
  have t2 : (op == 2) = false := by simp; omega
  have t3 : (op == 3) = false := by simp; omega
  have t4 : (op == 4) = false := by simp; omega
  have t5 : (op == 5) = false := by simp; omega
  have t6 : (op == 6) = false := by simp; omega
  have t7 : (op == 7) = false := by simp; omega
  have t8 : (op == 8) = false := by simp; omega
  have t9 : (op == 9) = false := by simp; omega
  have t10 : (op == 10) = false := by simp; omega
  have t11 : (op == 11) = false := by simp; omega
  have t12 : (op == 12) = false := by simp; omega
  have t13 : (op == 13) = false := by simp; omega
  have t14 : (op == 14) = false := by simp; omega
  have t15 : (op == 15) = false := by simp; omega
  have t16 : (op == 16) = false := by simp; omega
  have t17 : (op == 17) = false := by simp; omega
  have t18 : (op == 18) = false := by simp; omega
  have t19 : (op == 19) = false := by simp; omega
  have t20 : (op == 20) = false := by simp; omega
  have t21 : (op == 21) = false := by simp; omega
  go_enter Try.func14, Try.ntmps14
  go_wp2
  go_ret2
  exact ⟨rfl, rfl⟩
set_option maxRecDepth 20000 in
theorem dyadOther_hi (op x y : Int) (h : 21 < op) (w : World) :
    Calls Try.prog 14 #[.int .i64 op, .int .i64 x, .int .i64 y] w fun e w' => e = .returned (.tuple #[.int .i64 0, .int .i64 1]) ∧ w' = w := by
  have t1 : (op == 1) = false := by simp; omega
  have t2 : (op == 2) = false := by simp; omega
  have t3 : (op == 3) = false := by simp; omega
  have t4 : (op == 4) = false := by simp; omega
  have t5 : (op == 5) = false := by simp; omega
  have t6 : (op == 6) = false := by simp; omega
  have t7 : (op == 7) = false := by simp; omega
  have t8 : (op == 8) = false := by simp; omega
  have t9 : (op == 9) = false := by simp; omega
  have t10 : (op == 10) = false := by simp; omega
  have t11 : (op == 11) = false := by simp; omega
  have t12 : (op == 12) = false := by simp; omega
  have t13 : (op == 13) = false := by simp; omega
  have t14 : (op == 14) = false := by simp; omega
  have t15 : (op == 15) = false := by simp; omega
  have t16 : (op == 16) = false := by simp; omega
  have t17 : (op == 17) = false := by simp; omega
  have t18 : (op == 18) = false := by simp; omega
  have t19 : (op == 19) = false := by simp; omega
  have t20 : (op == 20) = false := by simp; omega
  have t21 : (op == 21) = false := by simp; omega
  go_enter Try.func14, Try.ntmps14
  go_wp2
  go_ret2
  exact ⟨rfl, rfl⟩
set_option maxRecDepth 20000 in
theorem rMonadOther_lo (op y : Int) (h : op < 1) (w : World) :
    Calls Try.prog 19 #[.int .i64 op, .int .i64 y] w fun e w' => e = .returned (.tuple #[.int .i64 0, .int .i64 1]) ∧ w' = w := by
  have d1 : decide (op < 1) = true := by simpa using h
  have d1 : decide (1 ≤ op) = false := by simp; omega
  have d2 : decide (op ≤ 21) = true := by simp; omega
  go_enter Try.func19, Try.ntmps19
  go_wp2
  go_ret2
  exact ⟨rfl, rfl⟩
set_option maxRecDepth 20000 in
theorem rMonadOther_hi (op y : Int) (h : 21 < op) (w : World) :
    Calls Try.prog 19 #[.int .i64 op, .int .i64 y] w fun e w' => e = .returned (.tuple #[.int .i64 0, .int .i64 1]) ∧ w' = w := by
  have d1 : decide (1 ≤ op) = true := by simp; omega
  have d2 : decide (op ≤ 21) = false := by simp; omega
  go_enter Try.func19, Try.ntmps19
  go_wp2
  go_ret2
  exact ⟨rfl, rfl⟩
set_option maxRecDepth 20000 in
theorem rDyadOther_lo (op x y : Int) (h : op < 1) (w : World) :
    Calls Try.prog 20 #[.int .i64 op, .int .i64 x, .int .i64 y] w fun e w' => e = .returned (.tuple #[.int .i64 0, .int .i64 1]) ∧ w' = w := by
  have d1 : decide (op < 1) = true := by simpa using h
  have d1 : decide (1 ≤ op) = false := by simp; omega
  have d2 : decide (op ≤ 21) = true := by simp; omega
  go_enter Try.func20, Try.ntmps20
  go_wp2
  go_ret2
  exact ⟨rfl, rfl⟩
set_option maxRecDepth 20000 in
theorem rDyadOther_hi (op x y : Int) (h : 21 < op) (w : World) :
    Calls Try.prog 20 #[.int .i64 op, .int .i64 x, .int .i64 y] w fun e w' => e = .returned (.tuple #[.int .i64 0, .int .i64 1]) ∧ w' = w := by
  have d1 : decide (1 ≤ op) = true := by simp; omega
  have d2 : decide (op ≤ 21) = false := by simp; omega
  go_enter Try.func20, Try.ntmps20
  go_wp2
  go_ret2
  exact ⟨rfl, rfl⟩
theorem monadBoth (op y : Int) (hy : inr y = true) : ∃ N E : Int, (∀ w, Calls Try.prog 16 #[.int .i64 op, .int .i64 y] w fun e w' => e = .returned (.tuple #[.int .i64 N, .int .i64 E]) ∧ ∃ n, w' = w.drewN n) ∧ (∀ w, Calls Try.prog 19 #[.int .i64 op, .int .i64 y] w fun e w' => e = .returned (.tuple #[.int .i64 N, .int .i64 E]) ∧ ∃ n, w' = w.drewN n) := by
  by_cases h : op < 1
  · exact ⟨0, 1, fun w => (monadOther_lo op y h w).mono fun e w' h => ⟨h.1, 0, h.2⟩, fun w => (rMonadOther_lo op y h w).mono fun e w' h => ⟨h.1, 0, h.2⟩⟩
  by_cases h2 : 21 < op
  · exact ⟨0, 1, fun w => (monadOther_hi op y h2 w).mono fun e w' h => ⟨h.1, 0, h.2⟩, fun w => (rMonadOther_hi op y h2 w).mono fun e w' h => ⟨h.1, 0, h.2⟩⟩
  rcases (show op = 1 ∨ op = 2 ∨ op = 3 ∨ op = 4 ∨ op = 5 ∨ op = 6 ∨ op = 7 ∨ op = 8 ∨ op = 9 ∨ op = 10 ∨ op = 11 ∨ op = 12 ∨ op = 13 ∨ op = 14 ∨ op = 15 ∨ op = 16 ∨ op = 17 ∨ op = 18 ∨ op = 19 ∨ op = 20 ∨ op = 21 by omega) with rfl | rfl | rfl | rfl | rfl | rfl | rfl | rfl | rfl | rfl | rfl | rfl | rfl | rfl | rfl | rfl | rfl | rfl | rfl | rfl | rfl
  · exact ⟨_, _, fun w => (monad1 y hy w).mono fun e w' h => ⟨h.1, 0, h.2⟩, fun w => (rMonad1 y hy w).mono fun e w' h => ⟨h.1, 0, h.2⟩⟩
  · exact ⟨_, _, fun w => (monad2 y hy w).mono fun e w' h => ⟨h.1, 0, h.2⟩, fun w => (rMonad2 y hy w).mono fun e w' h => ⟨h.1, 0, h.2⟩⟩
  · exact ⟨_, _, fun w => (monad3 y hy w).mono fun e w' h => ⟨h.1, 0, h.2⟩, fun w => (rMonad3 y hy w).mono fun e w' h => ⟨h.1, 0, h.2⟩⟩
  · exact ⟨_, _, fun w => (monad4 y hy w).mono fun e w' h => ⟨h.1, 0, h.2⟩, fun w => (rMonad4 y hy w).mono fun e w' h => ⟨h.1, 0, h.2⟩⟩
  · exact ⟨_, _, fun w => (monad5 y hy w).mono fun e w' h => ⟨h.1, 0, h.2⟩, fun w => (rMonad5 y hy w).mono fun e w' h => ⟨h.1, 0, h.2⟩⟩
  · exact ⟨_, _, fun w => (monad6 y hy w).mono fun e w' h => ⟨h.1, 0, h.2⟩, fun w => (rMonad6 y hy w).mono fun e w' h => ⟨h.1, 0, h.2⟩⟩
  · exact ⟨_, _, fun w => (monad7 y hy w).mono fun e w' h => ⟨h.1, 0, h.2⟩, fun w => (rMonad7 y hy w).mono fun e w' h => ⟨h.1, 0, h.2⟩⟩
  · exact ⟨_, _, fun w => (monad8 y hy w).mono fun e w' h => ⟨h.1, 0, h.2⟩, fun w => (rMonad8 y hy w).mono fun e w' h => ⟨h.1, 0, h.2⟩⟩
  · exact ⟨_, _, fun w => (monad9 y hy w).mono fun e w' h => ⟨h.1, 0, h.2⟩, fun w => (rMonad9 y hy w).mono fun e w' h => ⟨h.1, 0, h.2⟩⟩
  · exact ⟨_, _, fun w => (monad10 y hy w).mono fun e w' h => ⟨h.1, 0, h.2⟩, fun w => (rMonad10 y hy w).mono fun e w' h => ⟨h.1, 0, h.2⟩⟩
  · exact ⟨_, _, fun w => (monad11 y hy w).mono fun e w' h => ⟨h.1, 0, h.2⟩, fun w => (rMonad11 y hy w).mono fun e w' h => ⟨h.1, 0, h.2⟩⟩
  · exact ⟨_, _, fun w => (monad12 y hy w).mono fun e w' h => ⟨h.1, 0, h.2⟩, fun w => (rMonad12 y hy w).mono fun e w' h => ⟨h.1, 0, h.2⟩⟩
  · exact ⟨_, _, fun w => (monad13 y hy w).mono fun e w' h => ⟨h.1, 0, h.2⟩, fun w => (rMonad13 y hy w).mono fun e w' h => ⟨h.1, 0, h.2⟩⟩
  · exact ⟨_, _, fun w => (monad14 y hy w).mono fun e w' h => ⟨h.1, 0, h.2⟩, fun w => (rMonad14 y hy w).mono fun e w' h => ⟨h.1, 0, h.2⟩⟩
  · exact ⟨_, _, fun w => (monad15 y hy w).mono fun e w' h => ⟨h.1, 0, h.2⟩, fun w => (rMonad15 y hy w).mono fun e w' h => ⟨h.1, 0, h.2⟩⟩
  · exact ⟨_, _, fun w => (monad16 y hy w).mono fun e w' h => ⟨h.1, 0, h.2⟩, fun w => (rMonad16 y hy w).mono fun e w' h => ⟨h.1, 0, h.2⟩⟩
  · exact ⟨_, _, fun w => (monad17 y hy w).mono fun e w' h => ⟨h.1, 0, h.2⟩, fun w => (rMonad17 y hy w).mono fun e w' h => ⟨h.1, 0, h.2⟩⟩
  · exact ⟨_, _, fun w => (monad18 y hy w).mono fun e w' h => ⟨h.1, 0, h.2⟩, fun w => (rMonad18 y hy w).mono fun e w' h => ⟨h.1, 0, h.2⟩⟩
  · exact ⟨_, _, fun w => (monad19 y hy w).mono fun e w' h => ⟨h.1, 0, h.2⟩, fun w => (rMonad19 y hy w).mono fun e w' h => ⟨h.1, 0, h.2⟩⟩
  · exact ⟨_, _, fun w => (monad20 y hy w).mono fun e w' h => ⟨h.1, 0, h.2⟩, fun w => (rMonad20 y hy w).mono fun e w' h => ⟨h.1, 0, h.2⟩⟩
  · exact ⟨_, _, fun w => (monad21 y hy w).mono fun e w' h => ⟨h.1, 0, h.2⟩, fun w => (rMonad21 y hy w).mono fun e w' h => ⟨h.1, 0, h.2⟩⟩
theorem dyadBoth (op x y : Int) (hx : inr x = true) (hy : inr y = true) : ∃ N E : Int, (∀ w, Calls Try.prog 14 #[.int .i64 op, .int .i64 x, .int .i64 y] w fun e w' => e = .returned (.tuple #[.int .i64 N, .int .i64 E]) ∧ ∃ n, w' = w.drewN n) ∧ (∀ w, Calls Try.prog 20 #[.int .i64 op, .int .i64 x, .int .i64 y] w fun e w' => e = .returned (.tuple #[.int .i64 N, .int .i64 E]) ∧ ∃ n, w' = w.drewN n) := by
  by_cases h : op < 1
  · exact ⟨0, 1, fun w => (dyadOther_lo op x y h w).mono fun e w' h => ⟨h.1, 0, h.2⟩, fun w => (rDyadOther_lo op x y h w).mono fun e w' h => ⟨h.1, 0, h.2⟩⟩
  by_cases h2 : 21 < op
  · exact ⟨0, 1, fun w => (dyadOther_hi op x y h2 w).mono fun e w' h => ⟨h.1, 0, h.2⟩, fun w => (rDyadOther_hi op x y h2 w).mono fun e w' h => ⟨h.1, 0, h.2⟩⟩
  rcases (show op = 1 ∨ op = 2 ∨ op = 3 ∨ op = 4 ∨ op = 5 ∨ op = 6 ∨ op = 7 ∨ op = 8 ∨ op = 9 ∨ op = 10 ∨ op = 11 ∨ op = 12 ∨ op = 13 ∨ op = 14 ∨ op = 15 ∨ op = 16 ∨ op = 17 ∨ op = 18 ∨ op = 19 ∨ op = 20 ∨ op = 21 by omega) with rfl | rfl | rfl | rfl | rfl | rfl | rfl | rfl | rfl | rfl | rfl | rfl | rfl | rfl | rfl | rfl | rfl | rfl | rfl | rfl | rfl
  · exact ⟨_, _, fun w => (dyad1 x y hx hy w).mono fun e w' h => ⟨h.1, 0, h.2⟩, fun w => (rDyad1 x y hx hy w).mono fun e w' h => ⟨h.1, 0, h.2⟩⟩
  · exact ⟨_, _, fun w => (dyad2 x y hx hy w).mono fun e w' h => ⟨h.1, 0, h.2⟩, fun w => (rDyad2 x y hx hy w).mono fun e w' h => ⟨h.1, 0, h.2⟩⟩
  · exact ⟨_, _, fun w => (dyad3 x y hx hy w).mono fun e w' h => ⟨h.1, 0, h.2⟩, fun w => (rDyad3 x y hx hy w).mono fun e w' h => ⟨h.1, 0, h.2⟩⟩
  · exact ⟨_, _, fun w => (dyad4 x y hx hy w).mono fun e w' h => ⟨h.1, 0, h.2⟩, fun w => (rDyad4 x y hx hy w).mono fun e w' h => ⟨h.1, 0, h.2⟩⟩
  · exact ⟨_, _, fun w => (dyad5 x y hx hy w).mono fun e w' h => ⟨h.1, 0, h.2⟩, fun w => (rDyad5 x y hx hy w).mono fun e w' h => ⟨h.1, 0, h.2⟩⟩
  · exact ⟨_, _, fun w => (dyad6 x y hx hy w).mono fun e w' h => ⟨h.1, 0, h.2⟩, fun w => (rDyad6 x y hx hy w).mono fun e w' h => ⟨h.1, 0, h.2⟩⟩
  · exact ⟨_, _, fun w => (dyad7 x y hx hy w).mono fun e w' h => ⟨h.1, 0, h.2⟩, fun w => (rDyad7 x y hx hy w).mono fun e w' h => ⟨h.1, 0, h.2⟩⟩
  · exact ⟨_, _, fun w => (dyad8 x y hx hy w).mono fun e w' h => ⟨h.1, 0, h.2⟩, fun w => (rDyad8 x y hx hy w).mono fun e w' h => ⟨h.1, 0, h.2⟩⟩
  · exact ⟨_, _, fun w => (dyad9 x y hx hy w).mono fun e w' h => ⟨h.1, 0, h.2⟩, fun w => (rDyad9 x y hx hy w).mono fun e w' h => ⟨h.1, 0, h.2⟩⟩
  · exact ⟨_, _, fun w => (dyad10 x y hx hy w).mono fun e w' h => ⟨h.1, 0, h.2⟩, fun w => (rDyad10 x y hx hy w).mono fun e w' h => ⟨h.1, 0, h.2⟩⟩
  · exact ⟨_, _, fun w => (dyad11 x y hx hy w).mono fun e w' h => ⟨h.1, 0, h.2⟩, fun w => (rDyad11 x y hx hy w).mono fun e w' h => ⟨h.1, 0, h.2⟩⟩
  · exact ⟨_, _, fun w => (dyad12 x y hx hy w).mono fun e w' h => ⟨h.1, 0, h.2⟩, fun w => (rDyad12 x y hx hy w).mono fun e w' h => ⟨h.1, 0, h.2⟩⟩
  · exact ⟨_, _, fun w => (dyad13 x y hx hy w).mono fun e w' h => ⟨h.1, 0, h.2⟩, fun w => (rDyad13 x y hx hy w).mono fun e w' h => ⟨h.1, 0, h.2⟩⟩
  · exact ⟨_, _, fun w => dyad14 x y hx hy w, fun w => rDyad14 x y hx hy w⟩
  · exact ⟨_, _, fun w => dyad15 x y hx hy w, fun w => rDyad15 x y hx hy w⟩
  · exact ⟨_, _, fun w => (dyad16 x y hx hy w).mono fun e w' h => ⟨h.1, 0, h.2⟩, fun w => (rDyad16 x y hx hy w).mono fun e w' h => ⟨h.1, 0, h.2⟩⟩
  · exact ⟨_, _, fun w => (dyad17 x y hx hy w).mono fun e w' h => ⟨h.1, 0, h.2⟩, fun w => (rDyad17 x y hx hy w).mono fun e w' h => ⟨h.1, 0, h.2⟩⟩
  · exact ⟨_, _, fun w => (dyad18 x y hx hy w).mono fun e w' h => ⟨h.1, 0, h.2⟩, fun w => (rDyad18 x y hx hy w).mono fun e w' h => ⟨h.1, 0, h.2⟩⟩
  · exact ⟨_, _, fun w => (dyad19 x y hx hy w).mono fun e w' h => ⟨h.1, 0, h.2⟩, fun w => (rDyad19 x y hx hy w).mono fun e w' h => ⟨h.1, 0, h.2⟩⟩
  · exact ⟨_, _, fun w => (dyad20 x y hx hy w).mono fun e w' h => ⟨h.1, 0, h.2⟩, fun w => (rDyad20 x y hx hy w).mono fun e w' h => ⟨h.1, 0, h.2⟩⟩
  · exact ⟨_, _, fun w => dyad21 x y hx hy w, fun w => rDyad21 x y hx hy w⟩
end Go.Proofs.Ytaajliecbchklaa
