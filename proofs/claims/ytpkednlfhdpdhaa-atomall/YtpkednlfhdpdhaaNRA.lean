
/- The document's own answer of layer 1, whatever the op: what Monad and Dyad of package num answer. -/

import Derived.Test.YtpkednlfhdpdhaaNAny

import Derived.Test.YtpkednlfhdpdhaaNRef7

namespace Go.Proofs.Ytpkednlfhdpdhaa.Nm

open Go.RowKit

set_option linter.unusedVariables false

theorem rmonad_any (op y : Int) (hy : inr y = true) (w : World) :
    Calls Try.prog 30 #[.int .i64 op, .int .i64 y] w fun e w' => e = .returned (.tuple #[.int .i64 (mN op y), .int .i64 (mE op y)]) ∧ ∃ n, w' = w.drewN n := by
  by_cases h : op < 1
  · have e1 : mN op y = 0 := by unfold mN; iterate 21 (rw [if_neg (by omega)])
    have e2 : mE op y = 1 := by unfold mE; iterate 21 (rw [if_neg (by omega)])
    rw [e1, e2]
    exact (rMonadOther_lo op y h w).mono fun e w' h => ⟨h.1, 0, h.2⟩
  by_cases h2 : 21 < op
  · have e1 : mN op y = 0 := by unfold mN; iterate 21 (rw [if_neg (by omega)])
    have e2 : mE op y = 1 := by unfold mE; iterate 21 (rw [if_neg (by omega)])
    rw [e1, e2]
    exact (rMonadOther_hi op y h2 w).mono fun e w' h => ⟨h.1, 0, h.2⟩
  rcases (show op = 1 ∨ op = 2 ∨ op = 3 ∨ op = 4 ∨ op = 5 ∨ op = 6 ∨ op = 7 ∨ op = 8 ∨ op = 9 ∨ op = 10 ∨ op = 11 ∨ op = 12 ∨ op = 13 ∨ op = 14 ∨ op = 15 ∨ op = 16 ∨ op = 17 ∨ op = 18 ∨ op = 19 ∨ op = 20 ∨ op = 21 by omega) with rfl | rfl | rfl | rfl | rfl | rfl | rfl | rfl | rfl | rfl | rfl | rfl | rfl | rfl | rfl | rfl | rfl | rfl | rfl | rfl | rfl
  · rw [show mN 1 y = y from rfl, show mE 1 y = 0 from rfl]
    exact (rMonad1 y hy w).mono fun e w' h => ⟨h.1, 0, h.2⟩
  · rw [show mN 2 y = cut (-y) from rfl, show mE 2 y = ovr (-y) from rfl]
    exact (rMonad2 y hy w).mono fun e w' h => ⟨h.1, 0, h.2⟩
  · rw [show mN 3 y = sg y from rfl, show mE 3 y = 0 from rfl]
    exact (rMonad3 y hy w).mono fun e w' h => ⟨h.1, 0, h.2⟩
  · rw [show mN 4 y = 0 from rfl, show mE 4 y = 16 from rfl]
    exact (rMonad4 y hy w).mono fun e w' h => ⟨h.1, 0, h.2⟩
  · rw [show mN 5 y = cut ((y.natAbs : Nat)) from rfl, show mE 5 y = ovr ((y.natAbs : Nat)) from rfl]
    exact (rMonad5 y hy w).mono fun e w' h => ⟨h.1, 0, h.2⟩
  · rw [show mN 6 y = y from rfl, show mE 6 y = 0 from rfl]
    exact (rMonad6 y hy w).mono fun e w' h => ⟨h.1, 0, h.2⟩
  · rw [show mN 7 y = y from rfl, show mE 7 y = 0 from rfl]
    exact (rMonad7 y hy w).mono fun e w' h => ⟨h.1, 0, h.2⟩
  · rw [show mN 8 y = 0 from rfl, show mE 8 y = 16 from rfl]
    exact (rMonad8 y hy w).mono fun e w' h => ⟨h.1, 0, h.2⟩
  · rw [show mN 9 y = 0 from rfl, show mE 9 y = 16 from rfl]
    exact (rMonad9 y hy w).mono fun e w' h => ⟨h.1, 0, h.2⟩
  · rw [show mN 10 y = 0 from rfl, show mE 10 y = 16 from rfl]
    exact (rMonad10 y hy w).mono fun e w' h => ⟨h.1, 0, h.2⟩
  · rw [show mN 11 y = 0 from rfl, show mE 11 y = 16 from rfl]
    exact (rMonad11 y hy w).mono fun e w' h => ⟨h.1, 0, h.2⟩
  · rw [show mN 12 y = cut (y - 1) from rfl, show mE 12 y = ovr (y - 1) from rfl]
    exact (rMonad12 y hy w).mono fun e w' h => ⟨h.1, 0, h.2⟩
  · rw [show mN 13 y = cut (y + 1) from rfl, show mE 13 y = ovr (y + 1) from rfl]
    exact (rMonad13 y hy w).mono fun e w' h => ⟨h.1, 0, h.2⟩
  · rw [show mN 14 y = 0 from rfl, show mE 14 y = 16 from rfl]
    exact (rMonad14 y hy w).mono fun e w' h => ⟨h.1, 0, h.2⟩
  · rw [show mN 15 y = 0 from rfl, show mE 15 y = 16 from rfl]
    exact (rMonad15 y hy w).mono fun e w' h => ⟨h.1, 0, h.2⟩
  · rw [show mN 16 y = cut (y + y) from rfl, show mE 16 y = ovr (y + y) from rfl]
    exact (rMonad16 y hy w).mono fun e w' h => ⟨h.1, 0, h.2⟩
  · rw [show mN 17 y = cut (y * y) from rfl, show mE 17 y = ovr (y * y) from rfl]
    exact (rMonad17 y hy w).mono fun e w' h => ⟨h.1, 0, h.2⟩
  · rw [show mN 18 y = cut (1 - y) from rfl, show mE 18 y = ovr (1 - y) from rfl]
    exact (rMonad18 y hy w).mono fun e w' h => ⟨h.1, 0, h.2⟩
  · rw [show mN 19 y = halfN y from rfl, show mE 19 y = halfE y from rfl]
    exact (rMonad19 y hy w).mono fun e w' h => ⟨h.1, 0, h.2⟩
  · rw [show mN 20 y = 0 from rfl, show mE 20 y = 16 from rfl]
    exact (rMonad20 y hy w).mono fun e w' h => ⟨h.1, 0, h.2⟩
  · rw [show mN 21 y = factN y from rfl, show mE 21 y = factE y from rfl]
    exact (rMonad21 y hy w).mono fun e w' h => ⟨h.1, 0, h.2⟩
theorem rdyad_any (op x y : Int) (hx : inr x = true) (hy : inr y = true) (w : World) :
    Calls Try.prog 33 #[.int .i64 op, .int .i64 x, .int .i64 y] w fun e w' => e = .returned (.tuple #[.int .i64 (dN op x y), .int .i64 (dE op x y)]) ∧ ∃ n, w' = w.drewN n := by
  by_cases h : op < 1
  · have e1 : dN op x y = 0 := by unfold dN; iterate 21 (rw [if_neg (by omega)])
    have e2 : dE op x y = 1 := by unfold dE; iterate 21 (rw [if_neg (by omega)])
    rw [e1, e2]
    exact (rDyadOther_lo op x y h w).mono fun e w' h => ⟨h.1, 0, h.2⟩
  by_cases h2 : 21 < op
  · have e1 : dN op x y = 0 := by unfold dN; iterate 21 (rw [if_neg (by omega)])
    have e2 : dE op x y = 1 := by unfold dE; iterate 21 (rw [if_neg (by omega)])
    rw [e1, e2]
    exact (rDyadOther_hi op x y h2 w).mono fun e w' h => ⟨h.1, 0, h.2⟩
  rcases (show op = 1 ∨ op = 2 ∨ op = 3 ∨ op = 4 ∨ op = 5 ∨ op = 6 ∨ op = 7 ∨ op = 8 ∨ op = 9 ∨ op = 10 ∨ op = 11 ∨ op = 12 ∨ op = 13 ∨ op = 14 ∨ op = 15 ∨ op = 16 ∨ op = 17 ∨ op = 18 ∨ op = 19 ∨ op = 20 ∨ op = 21 by omega) with rfl | rfl | rfl | rfl | rfl | rfl | rfl | rfl | rfl | rfl | rfl | rfl | rfl | rfl | rfl | rfl | rfl | rfl | rfl | rfl | rfl
  · rw [show dN 1 x y = cut (x + y) from rfl, show dE 1 x y = ovr (x + y) from rfl]
    exact (rDyad1 x y hx hy w).mono fun e w' h => ⟨h.1, 0, h.2⟩
  · rw [show dN 2 x y = cut (x - y) from rfl, show dE 2 x y = ovr (x - y) from rfl]
    exact (rDyad2 x y hx hy w).mono fun e w' h => ⟨h.1, 0, h.2⟩
  · rw [show dN 3 x y = cut (x * y) from rfl, show dE 3 x y = ovr (x * y) from rfl]
    exact (rDyad3 x y hx hy w).mono fun e w' h => ⟨h.1, 0, h.2⟩
  · rw [show dN 4 x y = divN x y from rfl, show dE 4 x y = divE x y from rfl]
    exact (rDyad4 x y hx hy w).mono fun e w' h => ⟨h.1, 0, h.2⟩
  · rw [show dN 5 x y = y.fmod x from rfl, show dE 5 x y = 0 from rfl]
    exact (rDyad5 x y hx hy w).mono fun e w' h => ⟨h.1, 0, h.2⟩
  · rw [show dN 6 x y = min x y from rfl, show dE 6 x y = 0 from rfl]
    exact (rDyad6 x y hx hy w).mono fun e w' h => ⟨h.1, 0, h.2⟩
  · rw [show dN 7 x y = max x y from rfl, show dE 7 x y = 0 from rfl]
    exact (rDyad7 x y hx hy w).mono fun e w' h => ⟨h.1, 0, h.2⟩
  · rw [show dN 8 x y = tr (decide (x < y)) from rfl, show dE 8 x y = 0 from rfl]
    exact (rDyad8 x y hx hy w).mono fun e w' h => ⟨h.1, 0, h.2⟩
  · rw [show dN 9 x y = tr (decide (y < x)) from rfl, show dE 9 x y = 0 from rfl]
    exact (rDyad9 x y hx hy w).mono fun e w' h => ⟨h.1, 0, h.2⟩
  · rw [show dN 10 x y = tr (x == y) from rfl, show dE 10 x y = 0 from rfl]
    exact (rDyad10 x y hx hy w).mono fun e w' h => ⟨h.1, 0, h.2⟩
  · rw [show dN 11 x y = tr (x != y) from rfl, show dE 11 x y = 0 from rfl]
    exact (rDyad11 x y hx hy w).mono fun e w' h => ⟨h.1, 0, h.2⟩
  · rw [show dN 12 x y = tr (decide (x ≤ y)) from rfl, show dE 12 x y = 0 from rfl]
    exact (rDyad12 x y hx hy w).mono fun e w' h => ⟨h.1, 0, h.2⟩
  · rw [show dN 13 x y = tr (decide (y ≤ x)) from rfl, show dE 13 x y = 0 from rfl]
    exact (rDyad13 x y hx hy w).mono fun e w' h => ⟨h.1, 0, h.2⟩
  · rw [show dN 14 x y = cut ((Nat.gcd x.natAbs y.natAbs : Nat)) from rfl, show dE 14 x y = ovr ((Nat.gcd x.natAbs y.natAbs : Nat)) from rfl]
    exact rDyad14 x y hx hy w
  · rw [show dN 15 x y = cut ((Nat.lcm x.natAbs y.natAbs : Nat)) from rfl, show dE 15 x y = ovr ((Nat.lcm x.natAbs y.natAbs : Nat)) from rfl]
    exact rDyad15 x y hx hy w
  · rw [show dN 16 x y = norN x y from rfl, show dE 16 x y = bitE x y from rfl]
    exact (rDyad16 x y hx hy w).mono fun e w' h => ⟨h.1, 0, h.2⟩
  · rw [show dN 17 x y = nandN x y from rfl, show dE 17 x y = bitE x y from rfl]
    exact (rDyad17 x y hx hy w).mono fun e w' h => ⟨h.1, 0, h.2⟩
  · rw [show dN 18 x y = 0 from rfl, show dE 18 x y = 16 from rfl]
    exact (rDyad18 x y hx hy w).mono fun e w' h => ⟨h.1, 0, h.2⟩
  · rw [show dN 19 x y = 0 from rfl, show dE 19 x y = 16 from rfl]
    exact (rDyad19 x y hx hy w).mono fun e w' h => ⟨h.1, 0, h.2⟩
  · rw [show dN 20 x y = powN x y from rfl, show dE 20 x y = powE x y from rfl]
    exact (rDyad20 x y hx hy w).mono fun e w' h => ⟨h.1, 0, h.2⟩
  · rw [show dN 21 x y = chooseN x y from rfl, show dE 21 x y = chooseE x y from rfl]
    exact rDyad21 x y hx hy w
end Go.Proofs.Ytpkednlfhdpdhaa.Nm
