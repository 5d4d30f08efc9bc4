
/- Package num as the other packages see it: what Monad and Dyad answer, whatever the op. -/

import Derived.Test.YthncgocjegalhaaNTable21

namespace Go.Proofs.Ythncgocjegalhaa.Nm

open Go.RowKit

set_option linter.unusedVariables false

/-- What Monad answers, and its error. -/
def mN (op y : Int) : Int := if op = 1 then y else if op = 2 then cut (-y) else if op = 3 then sg y else if op = 4 then 0 else if op = 5 then cut ((y.natAbs : Nat)) else if op = 6 then y else if op = 7 then y else if op = 8 then 0 else if op = 9 then 0 else if op = 10 then 0 else if op = 11 then 0 else if op = 12 then cut (y - 1) else if op = 13 then cut (y + 1) else if op = 14 then 0 else if op = 15 then 0 else if op = 16 then cut (y + y) else if op = 17 then cut (y * y) else if op = 18 then cut (1 - y) else if op = 19 then halfN y else if op = 20 then 0 else if op = 21 then factN y else 0
def mE (op y : Int) : Int := if op = 1 then 0 else if op = 2 then ovr (-y) else if op = 3 then 0 else if op = 4 then 16 else if op = 5 then ovr ((y.natAbs : Nat)) else if op = 6 then 0 else if op = 7 then 0 else if op = 8 then 16 else if op = 9 then 16 else if op = 10 then 16 else if op = 11 then 16 else if op = 12 then ovr (y - 1) else if op = 13 then ovr (y + 1) else if op = 14 then 16 else if op = 15 then 16 else if op = 16 then ovr (y + y) else if op = 17 then ovr (y * y) else if op = 18 then ovr (1 - y) else if op = 19 then halfE y else if op = 20 then 16 else if op = 21 then factE y else 1
/-- What Dyad answers, and its error. -/
def dN (op x y : Int) : Int := if op = 1 then cut (x + y) else if op = 2 then cut (x - y) else if op = 3 then cut (x * y) else if op = 4 then divN x y else if op = 5 then y.fmod x else if op = 6 then min x y else if op = 7 then max x y else if op = 8 then tr (decide (x < y)) else if op = 9 then tr (decide (y < x)) else if op = 10 then tr (x == y) else if op = 11 then tr (x != y) else if op = 12 then tr (decide (x ≤ y)) else if op = 13 then tr (decide (y ≤ x)) else if op = 14 then cut ((Nat.gcd x.natAbs y.natAbs : Nat)) else if op = 15 then cut ((Nat.lcm x.natAbs y.natAbs : Nat)) else if op = 16 then norN x y else if op = 17 then nandN x y else if op = 18 then 0 else if op = 19 then 0 else if op = 20 then powN x y else if op = 21 then chooseN x y else 0
def dE (op x y : Int) : Int := if op = 1 then ovr (x + y) else if op = 2 then ovr (x - y) else if op = 3 then ovr (x * y) else if op = 4 then divE x y else if op = 5 then 0 else if op = 6 then 0 else if op = 7 then 0 else if op = 8 then 0 else if op = 9 then 0 else if op = 10 then 0 else if op = 11 then 0 else if op = 12 then 0 else if op = 13 then 0 else if op = 14 then ovr ((Nat.gcd x.natAbs y.natAbs : Nat)) else if op = 15 then ovr ((Nat.lcm x.natAbs y.natAbs : Nat)) else if op = 16 then bitE x y else if op = 17 then bitE x y else if op = 18 then 16 else if op = 19 then 16 else if op = 20 then powE x y else if op = 21 then chooseE x y else 1
set_option maxRecDepth 20000 in
theorem monadOther_lo (op y : Int) (h : op < 1) (w : World) :
    Calls Try.prog 49 #[.int .i64 op, .int .i64 y] w fun e w' => e = .returned (.tuple #[.int .i64 0, .int .i64 1]) ∧ w' = w := by
  have t1 : (op == 1) = false := by simp; omega
  have t2 : (op == 2) = false := by simp; omega
  have t3 : (op == 3) = false := by simp; omega
  have t4 : (op == 4) = false := by simp; omega
  have t5 : (op == 5) = false := by simp; omega
  have t6 : (op == 6) = false := by simp; omega
  have t7 : (op == 7) = false := by simp; omega
  have t8 : (op == 8) = false := by simp; omega
  have t9 : (op == 9) = false := by simp; omega
  have t10 : (op == 10) = false := by simp; omega
  have t11 : (op == 11) = false := by simp; omega
  have t12 : (op == 12) = false := by simp; omega
  have t13 : (op == 13) = false := by simp; omega
  have t14 : (op == 14) = false := by simp; omega
  have t15 : (op == 15) = false := by simp; omega
  have t16 : (op == 16) = false := by simp; omega
  have t17 : (op == 17) = false := by simp; omega
  have t18 : (op == 18) = false := by simp; omega
  have t19 : (op == 19) = false := by simp; omega
  have t20 : (op == 20) = false := by simp; omega
  have t21 : (op == 21) = false := by simp; omega
  go_enter Try.func49, Try.ntmps49
  go_wp2
  go_ret2
  exact ⟨rfl, rfl⟩
set_option maxRecDepth 20000 in
theorem monadOther_hi (op y : Int) (h : 21 < op) (w : World) :
    Calls Try.prog 49 #[.int .i64 op, .int .i64 y] w fun e w' => e = .returned (.tuple #[.int .i64 0, .int .i64 1]) ∧ w' = w := by
  have t1 : (op == 1) = false := by simp; omega
  have t2 : (op == 2) = false := by simp; omega
  have t3 : (op == 3) = false := by simp; omega
  have t4 : (op == 4) = false := by simp; omega
  have t5 : (op == 5) = false := by simp; omega
  have t6 : (op == 6) = false := by simp; omega
  have t7 : (op == 7) = false := by simp; omega
  have t8 : (op == 8) = false := by simp; omega
  have t9 : (op == 9) = false := by simp; omega
  have t10 : (op == 10) = false := by simp; omega
  have t11 : (op == 11) = false := by simp; omega
  have t12 : (op == 12) = false := by simp; omega
  have t13 : (op == 13) = false := by simp; omega
  have t14 : (op == 14) = false := by simp; omega
  have t15 : (op == 15) = false := by simp; omega
  have t16 : (op == 16) = false := by simp; omega
  have t17 : (op == 17) = false := by simp; omega
  have t18 : (op == 18) = false := by simp; omega
  have t19 : (op == 19) = false := by simp; omega
  have t20 : (op == 20) = false := by simp; omega
  have t21 : (op == 21) = false := by simp; omega
  go_enter Try.func49, Try.ntmps49
  go_wp2
  go_ret2
  exact ⟨rfl, rfl⟩
set_option maxRecDepth 20000 in
theorem dyadOther_lo (op x y : Int) (h : op < 1) (w : World) :
    Calls Try.prog 52 #[.int .i64 op, .int .i64 x, .int .i64 y] w fun e w' => e = .returned (.tuple #[.int .i64 0, .int .i64 1]) ∧ w' = w := by
  have t1 : (op == 1) = false := by simp; omega
  have t2 : (op == 2) = false := by simp; omega
  have t3 : (op == 3) = false := by simp; omega
  have t4 : (op == 4) = false := by simp; omega
  have t5 : (op == 5) = false := by simp; omega
  have t6 : (op == 6) = false := by simp; omega
  have t7 : (op == 7) = false := by simp; omega
  have t8 : (op == 8) = false := by simp; omega
  have t9 : (op == 9) = false := by simp; omega
  have t10 : (op == 10) = false := by simp; omega
  have t11 : (op == 11) = false := by simp; omega
  have t12 : (op == 12) = false := by simp; omega
  have t13 : (op == 13) = false := by simp; omega
  have t14 : (op == 14) = false := by simp; omega
  have t15 : (op == 15) = false := by simp; omega
  have t16 : (op == 16) = false := by simp; omega
  have t17 : (op == 17) = false := by simp; omega
  have t18 : (op == 18) = false := by simp; omega
  have t19 : (op == 19) = false := by simp; omega
  have t20 : (op == 20) = false := by simp; omega
  have t21 : (op == 21) = false := by simp; omega
  go_enter Try.func52, Try.ntmps52
  go_wp2
  go_ret2
  exact ⟨rfl, rfl⟩
set_option maxRecDepth 20000 in
theorem dyadOther_hi (op x y : Int) (h : 21 < op) (w : World) :
    Calls Try.prog 52 #[.int .i64 op, .int .i64 x, .int .i64 y] w fun e w' => e = .returned (.tuple #[.int .i64 0, .int .i64 1]) ∧ w' = w := by
  have t1 : (op == 1) = false := by simp; omega
  have t2 : (op == 2) = false := by simp; omega
  have t3 : (op == 3) = false := by simp; omega
  have t4 : (op == 4) = false := by simp; omega
  have t5 : (op == 5) = false := by simp; omega
  have t6 : (op == 6) = false := by simp; omega
  have t7 : (op == 7) = false := by simp; omega
  have t8 : (op == 8) = false := by simp; omega
  have t9 : (op == 9) = false := by simp; omega
  have t10 : (op == 10) = false := by simp; omega
  have t11 : (op == 11) = false := by simp; omega
  have t12 : (op == 12) = false := by simp; omega
  have t13 : (op == 13) = false := by simp; omega
  have t14 : (op == 14) = false := by simp; omega
  have t15 : (op == 15) = false := by simp; omega
  have t16 : (op == 16) = false := by simp; omega
  have t17 : (op == 17) = false := by simp; omega
  have t18 : (op == 18) = false := by simp; omega
  have t19 : (op == 19) = false := by simp; omega
  have t20 : (op == 20) = false := by simp; omega
  have t21 : (op == 21) = false := by simp; omega
  go_enter Try.func52, Try.ntmps52
  go_wp2
  go_ret2
  exact ⟨rfl, rfl⟩
theorem monad_any (op y : Int) (hy : inr y = true) (w : World) :
    Calls Try.prog 49 #[.int .i64 op, .int .i64 y] w fun e w' => e = .returned (.tuple #[.int .i64 (mN op y), .int .i64 (mE op y)]) ∧ ∃ n, w' = w.drewN n := by
  by_cases h : op < 1
  · have e1 : mN op y = 0 := by unfold mN; iterate 21 (rw [if_neg (by omega)])
    have e2 : mE op y = 1 := by unfold mE; iterate 21 (rw [if_neg (by omega)])
    rw [e1, e2]
    exact (monadOther_lo op y h w).mono fun e w' h => ⟨h.1, 0, h.2⟩
  by_cases h2 : 21 < op
  · have e1 : mN op y = 0 := by unfold mN; iterate 21 (rw [if_neg (by omega)])
    have e2 : mE op y = 1 := by unfold mE; iterate 21 (rw [if_neg (by omega)])
    rw [e1, e2]
    exact (monadOther_hi op y h2 w).mono fun e w' h => ⟨h.1, 0, h.2⟩
  rcases (show op = 1 ∨ op = 2 ∨ op = 3 ∨ op = 4 ∨ op = 5 ∨ op = 6 ∨ op = 7 ∨ op = 8 ∨ op = 9 ∨ op = 10 ∨ op = 11 ∨ op = 12 ∨ op = 13 ∨ op = 14 ∨ op = 15 ∨ op = 16 ∨ op = 17 ∨ op = 18 ∨ op = 19 ∨ op = 20 ∨ op = 21 by omega) with rfl | rfl | rfl | rfl | rfl | rfl | rfl | rfl | rfl | rfl | rfl | rfl | rfl | rfl | rfl | rfl | rfl | rfl | rfl | rfl | rfl
  · rw [show mN 1 y = y from rfl, show mE 1 y = 0 from rfl]
    exact (monad1 y hy w).mono fun e w' h => ⟨h.1, 0, h.2⟩
  · rw [show mN 2 y = cut (-y) from rfl, show mE 2 y = ovr (-y) from rfl]
    exact (monad2 y hy w).mono fun e w' h => ⟨h.1, 0, h.2⟩
  · rw [show mN 3 y = sg y from rfl, show mE 3 y = 0 from rfl]
    exact (monad3 y hy w).mono fun e w' h => ⟨h.1, 0, h.2⟩
  · rw [show mN 4 y = 0 from rfl, show mE 4 y = 16 from rfl]
    exact (monad4 y hy w).mono fun e w' h => ⟨h.1, 0, h.2⟩
  · rw [show mN 5 y = cut ((y.natAbs : Nat)) from rfl, show mE 5 y = ovr ((y.natAbs : Nat)) from rfl]
    exact (monad5 y hy w).mono fun e w' h => ⟨h.1, 0, h.2⟩
  · rw [show mN 6 y = y from rfl, show mE 6 y = 0 from rfl]
    exact (monad6 y hy w).mono fun e w' h => ⟨h.1, 0, h.2⟩
  · rw [show mN 7 y = y from rfl, show mE 7 y = 0 from rfl]
    exact (monad7 y hy w).mono fun e w' h => ⟨h.1, 0, h.2⟩
  · rw [show mN 8 y = 0 from rfl, show mE 8 y = 16 from rfl]
    exact (monad8 y hy w).mono fun e w' h => ⟨h.1, 0, h.2⟩
  · rw [show mN 9 y = 0 from rfl, show mE 9 y = 16 from rfl]
    exact (monad9 y hy w).mono fun e w' h => ⟨h.1, 0, h.2⟩
  · rw [show mN 10 y = 0 from rfl, show mE 10 y = 16 from rfl]
    exact (monad10 y hy w).mono fun e w' h => ⟨h.1, 0, h.2⟩
  · rw [show mN 11 y = 0 from rfl, show mE 11 y = 16 from rfl]
    exact (monad11 y hy w).mono fun e w' h => ⟨h.1, 0, h.2⟩
  · rw [show mN 12 y = cut (y - 1) from rfl, show mE 12 y = ovr (y - 1) from rfl]
    exact (monad12 y hy w).mono fun e w' h => ⟨h.1, 0, h.2⟩
  · rw [show mN 13 y = cut (y + 1) from rfl, show mE 13 y = ovr (y + 1) from rfl]
    exact (monad13 y hy w).mono fun e w' h => ⟨h.1, 0, h.2⟩
  · rw [show mN 14 y = 0 from rfl, show mE 14 y = 16 from rfl]
    exact (monad14 y hy w).mono fun e w' h => ⟨h.1, 0, h.2⟩
  · rw [show mN 15 y = 0 from rfl, show mE 15 y = 16 from rfl]
    exact (monad15 y hy w).mono fun e w' h => ⟨h.1, 0, h.2⟩
  · rw [show mN 16 y = cut (y + y) from rfl, show mE 16 y = ovr (y + y) from rfl]
    exact (monad16 y hy w).mono fun e w' h => ⟨h.1, 0, h.2⟩
  · rw [show mN 17 y = cut (y * y) from rfl, show mE 17 y = ovr (y * y) from rfl]
    exact (monad17 y hy w).mono fun e w' h => ⟨h.1, 0, h.2⟩
  · rw [show mN 18 y = cut (1 - y) from rfl, show mE 18 y = ovr (1 - y) from rfl]
    exact (monad18 y hy w).mono fun e w' h => ⟨h.1, 0, h.2⟩
  · rw [show mN 19 y = halfN y from rfl, show mE 19 y = halfE y from rfl]
    exact (monad19 y hy w).mono fun e w' h => ⟨h.1, 0, h.2⟩
  · rw [show mN 20 y = 0 from rfl, show mE 20 y = 16 from rfl]
    exact (monad20 y hy w).mono fun e w' h => ⟨h.1, 0, h.2⟩
  · rw [show mN 21 y = factN y from rfl, show mE 21 y = factE y from rfl]
    exact (monad21 y hy w).mono fun e w' h => ⟨h.1, 0, h.2⟩
theorem dyad_any (op x y : Int) (hx : inr x = true) (hy : inr y = true) (w : World) :
    Calls Try.prog 52 #[.int .i64 op, .int .i64 x, .int .i64 y] w fun e w' => e = .returned (.tuple #[.int .i64 (dN op x y), .int .i64 (dE op x y)]) ∧ ∃ n, w' = w.drewN n := by
  by_cases h : op < 1
  · have e1 : dN op x y = 0 := by unfold dN; iterate 21 (rw [if_neg (by omega)])
    have e2 : dE op x y = 1 := by unfold dE; iterate 21 (rw [if_neg (by omega)])
    rw [e1, e2]
    exact (dyadOther_lo op x y h w).mono fun e w' h => ⟨h.1, 0, h.2⟩
  by_cases h2 : 21 < op
  · have e1 : dN op x y = 0 := by unfold dN; iterate 21 (rw [if_neg (by omega)])
    have e2 : dE op x y = 1 := by unfold dE; iterate 21 (rw [if_neg (by omega)])
    rw [e1, e2]
    exact (dyadOther_hi op x y h2 w).mono fun e w' h => ⟨h.1, 0, h.2⟩
  rcases (show op = 1 ∨ op = 2 ∨ op = 3 ∨ op = 4 ∨ op = 5 ∨ op = 6 ∨ op = 7 ∨ op = 8 ∨ op = 9 ∨ op = 10 ∨ op = 11 ∨ op = 12 ∨ op = 13 ∨ op = 14 ∨ op = 15 ∨ op = 16 ∨ op = 17 ∨ op = 18 ∨ op = 19 ∨ op = 20 ∨ op = 21 by omega) with rfl | rfl | rfl | rfl | rfl | rfl | rfl | rfl | rfl | rfl | rfl | rfl | rfl | rfl | rfl | rfl | rfl | rfl | rfl | rfl | rfl
  · rw [show dN 1 x y = cut (x + y) from rfl, show dE 1 x y = ovr (x + y) from rfl]
    exact (dyad1 x y hx hy w).mono fun e w' h => ⟨h.1, 0, h.2⟩
  · rw [show dN 2 x y = cut (x - y) from rfl, show dE 2 x y = ovr (x - y) from rfl]
    exact (dyad2 x y hx hy w).mono fun e w' h => ⟨h.1, 0, h.2⟩
  · rw [show dN 3 x y = cut (x * y) from rfl, show dE 3 x y = ovr (x * y) from rfl]
    exact (dyad3 x y hx hy w).mono fun e w' h => ⟨h.1, 0, h.2⟩
  · rw [show dN 4 x y = divN x y from rfl, show dE 4 x y = divE x y from rfl]
    exact (dyad4 x y hx hy w).mono fun e w' h => ⟨h.1, 0, h.2⟩
  · rw [show dN 5 x y = y.fmod x from rfl, show dE 5 x y = 0 from rfl]
    exact (dyad5 x y hx hy w).mono fun e w' h => ⟨h.1, 0, h.2⟩
  · rw [show dN 6 x y = min x y from rfl, show dE 6 x y = 0 from rfl]
    exact (dyad6 x y hx hy w).mono fun e w' h => ⟨h.1, 0, h.2⟩
  · rw [show dN 7 x y = max x y from rfl, show dE 7 x y = 0 from rfl]
    exact (dyad7 x y hx hy w).mono fun e w' h => ⟨h.1, 0, h.2⟩
  · rw [show dN 8 x y = tr (decide (x < y)) from rfl, show dE 8 x y = 0 from rfl]
    exact (dyad8 x y hx hy w).mono fun e w' h => ⟨h.1, 0, h.2⟩
  · rw [show dN 9 x y = tr (decide (y < x)) from rfl, show dE 9 x y = 0 from rfl]
    exact (dyad9 x y hx hy w).mono fun e w' h => ⟨h.1, 0, h.2⟩
  · rw [show dN 10 x y = tr (x == y) from rfl, show dE 10 x y = 0 from rfl]
    exact (dyad10 x y hx hy w).mono fun e w' h => ⟨h.1, 0, h.2⟩
  · rw [show dN 11 x y = tr (x != y) from rfl, show dE 11 x y = 0 from rfl]
    exact (dyad11 x y hx hy w).mono fun e w' h => ⟨h.1, 0, h.2⟩
  · rw [show dN 12 x y = tr (decide (x ≤ y)) from rfl, show dE 12 x y = 0 from rfl]
    exact (dyad12 x y hx hy w).mono fun e w' h => ⟨h.1, 0, h.2⟩
  · rw [show dN 13 x y = tr (decide (y ≤ x)) from rfl, show dE 13 x y = 0 from rfl]
    exact (dyad13 x y hx hy w).mono fun e w' h => ⟨h.1, 0, h.2⟩
  · rw [show dN 14 x y = cut ((Nat.gcd x.natAbs y.natAbs : Nat)) from rfl, show dE 14 x y = ovr ((Nat.gcd x.natAbs y.natAbs : Nat)) from rfl]
    exact dyad14 x y hx hy w
  · rw [show dN 15 x y = cut ((Nat.lcm x.natAbs y.natAbs : Nat)) from rfl, show dE 15 x y = ovr ((Nat.lcm x.natAbs y.natAbs : Nat)) from rfl]
    exact dyad15 x y hx hy w
  · rw [show dN 16 x y = norN x y from rfl, show dE 16 x y = bitE x y from rfl]
    exact (dyad16 x y hx hy w).mono fun e w' h => ⟨h.1, 0, h.2⟩
  · rw [show dN 17 x y = nandN x y from rfl, show dE 17 x y = bitE x y from rfl]
    exact (dyad17 x y hx hy w).mono fun e w' h => ⟨h.1, 0, h.2⟩
  · rw [show dN 18 x y = 0 from rfl, show dE 18 x y = 16 from rfl]
    exact (dyad18 x y hx hy w).mono fun e w' h => ⟨h.1, 0, h.2⟩
  · rw [show dN 19 x y = 0 from rfl, show dE 19 x y = 16 from rfl]
    exact (dyad19 x y hx hy w).mono fun e w' h => ⟨h.1, 0, h.2⟩
  · rw [show dN 20 x y = powN x y from rfl, show dE 20 x y = powE x y from rfl]
    exact (dyad20 x y hx hy w).mono fun e w' h => ⟨h.1, 0, h.2⟩
  · rw [show dN 21 x y = chooseN x y from rfl, show dE 21 x y = chooseE x y from rfl]
    exact dyad21 x y hx hy w
theorem inr_fmod {x y : Int} (hx : inr x = true) (hy : inr y = true) : inr (y.fmod x) = true := by
  rw [inr_iff] at hx hy ⊢
  rcases Int.lt_trichotomy x 0 with h | h | h
  · have := fmod_neg (y := y) h; omega
  · subst h; rw [Int.fmod_zero]; exact hy
  · have := fmod_pos (y := y) h; omega
theorem inr_tr (b : Bool) : inr (tr b) = true := by cases b <;> rfl
theorem inr_sg (n : Int) : inr (sg n) = true := by unfold sg; repeat' split
                                                   all_goals rfl
theorem ite_ind (P : Int → Prop) {c : Prop} [Decidable c] {a b : Int} (ha : P a) (hb : P b) : P (if c then a else b) := by
  by_cases h : c
  · rw [if_pos h]; exact ha
  · rw [if_neg h]; exact hb
theorem inr_half {y : Int} (hy : inr y = true) : inr (halfN y) = true := by
  rw [inr_iff] at hy
  unfold halfN
  refine ite_ind (fun z => inr z = true) ?_ rfl
  rw [inr_iff]; omega
theorem inr_fact (y : Int) : inr (factN y) = true := ite_ind (fun z => inr z = true) rfl (inr_cut _)
theorem inr_div (x y : Int) : inr (divN x y) = true := ite_ind (fun z => inr z = true) rfl (inr_cut _)
theorem inr_nor (x y : Int) : inr (norN x y) = true := ite_ind (fun z => inr z = true) (inr_tr _) rfl
theorem inr_nand (x y : Int) : inr (nandN x y) = true := ite_ind (fun z => inr z = true) (inr_tr _) rfl
theorem inr_cho (x y : Int) : inr (chooseN x y) = true := ite_ind (fun z => inr z = true) rfl (inr_cut _)
theorem inr_pow (x y : Int) : inr (powN x y) = true := ite_ind (fun z => inr z = true) (inr_cut _) (ite_ind (fun z => inr z = true) rfl (ite_ind (fun z => inr z = true) (ite_ind (fun z => inr z = true) rfl rfl) rfl))
theorem inr_min {x y : Int} (hx : inr x = true) (hy : inr y = true) : inr (min x y) = true := by rw [inr_iff] at *; omega
theorem inr_max {x y : Int} (hx : inr x = true) (hy : inr y = true) : inr (max x y) = true := by rw [inr_iff] at *; omega
theorem inr_mN (op y : Int) (hy : inr y = true) : inr (mN op y) = true := by
  unfold mN
  exact (ite_ind (fun z => inr z = true) (hy) (ite_ind (fun z => inr z = true) (inr_cut _) (ite_ind (fun z => inr z = true) (inr_sg _) (ite_ind (fun z => inr z = true) (rfl) (ite_ind (fun z => inr z = true) (inr_cut _) (ite_ind (fun z => inr z = true) (hy) (ite_ind (fun z => inr z = true) (hy) (ite_ind (fun z => inr z = true) (rfl) (ite_ind (fun z => inr z = true) (rfl) (ite_ind (fun z => inr z = true) (rfl) (ite_ind (fun z => inr z = true) (rfl) (ite_ind (fun z => inr z = true) (inr_cut _) (ite_ind (fun z => inr z = true) (inr_cut _) (ite_ind (fun z => inr z = true) (rfl) (ite_ind (fun z => inr z = true) (rfl) (ite_ind (fun z => inr z = true) (inr_cut _) (ite_ind (fun z => inr z = true) (inr_cut _) (ite_ind (fun z => inr z = true) (inr_cut _) (ite_ind (fun z => inr z = true) (inr_half hy) (ite_ind (fun z => inr z = true) (rfl) (ite_ind (fun z => inr z = true) (inr_fact _) rfl)))))))))))))))))))))
theorem inr_dN (op x y : Int) (hx : inr x = true) (hy : inr y = true) : inr (dN op x y) = true := by
  unfold dN
  exact (ite_ind (fun z => inr z = true) (inr_cut _) (ite_ind (fun z => inr z = true) (inr_cut _) (ite_ind (fun z => inr z = true) (inr_cut _) (ite_ind (fun z => inr z = true) (inr_div _ _) (ite_ind (fun z => inr z = true) (inr_fmod hx hy) (ite_ind (fun z => inr z = true) (inr_min hx hy) (ite_ind (fun z => inr z = true) (inr_max hx hy) (ite_ind (fun z => inr z = true) (inr_tr _) (ite_ind (fun z => inr z = true) (inr_tr _) (ite_ind (fun z => inr z = true) (inr_tr _) (ite_ind (fun z => inr z = true) (inr_tr _) (ite_ind (fun z => inr z = true) (inr_tr _) (ite_ind (fun z => inr z = true) (inr_tr _) (ite_ind (fun z => inr z = true) (inr_cut _) (ite_ind (fun z => inr z = true) (inr_cut _) (ite_ind (fun z => inr z = true) (inr_nor _ _) (ite_ind (fun z => inr z = true) (inr_nand _ _) (ite_ind (fun z => inr z = true) (rfl) (ite_ind (fun z => inr z = true) (rfl) (ite_ind (fun z => inr z = true) (inr_pow _ _) (ite_ind (fun z => inr z = true) (inr_cho _ _) rfl)))))))))))))))))))))
end Go.Proofs.Ythncgocjegalhaa.Nm
