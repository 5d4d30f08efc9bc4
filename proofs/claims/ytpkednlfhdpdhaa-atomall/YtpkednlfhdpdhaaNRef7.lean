
/- Contracts of the document's own answer (abacusref1), the last rows of Dyad; every op that is none of the table's; and both answers together: what package num answers the document answers. -/

import Derived.Test.YtpkednlfhdpdhaaNRef6

import Derived.Test.YtpkednlfhdpdhaaNTable21

namespace Go.Proofs.Ytpkednlfhdpdhaa.Nm

open Go.RowKit

set_option linter.unusedVariables false

set_option maxRecDepth 20000 in
theorem rDyad15 (x y : Int) (hx : inr x = true) (hy : inr y = true) (w : World) :
    Calls Try.prog 33 #[.int .i64 15, .int .i64 x, .int .i64 y] w fun e w' => e = .returned (.tuple #[.int .i64 (cut ((Nat.lcm x.natAbs y.natAbs : Nat))), .int .i64 (ovr ((Nat.lcm x.natAbs y.natAbs : Nat)))]) ∧ ∃ n, w' = w.drewN n := by
  have hx' := hx
  have hy' := hy
  rw [inr_iff] at hx hy
  by_cases c0 : x = 0
  · subst c0
    rw [show Nat.lcm (0 : Int).natAbs y.natAbs = 0 from Nat.lcm_zero_left _]
    go_enter Try.func33, Try.ntmps33
    go_wp2
    go_ret2
    exact ⟨rfl, 0, rfl⟩
  by_cases c1 : y = 0
  · subst c1
    rw [show Nat.lcm x.natAbs (0 : Int).natAbs = 0 from Nat.lcm_zero_right _]
    have b0 : (x == 0) = false := by simp [c0]
    go_enter Try.func33, Try.ntmps33
    go_wp2
    go_ret2
    exact ⟨rfl, 0, rfl⟩
  have b0 : (x == 0) = false := by simp [c0]
  have b1 : (y == 0) = false := by simp [c1]
  have hax : x.natAbs < 18446744073709551616 := by omega
  have hay : y.natAbs < 18446744073709551616 := by omega
  have hg : 0 < Nat.gcd x.natAbs y.natAbs := Nat.gcd_pos_of_pos_left _ (by omega)
  have hd : x.natAbs / Nat.gcd x.natAbs y.natAbs < 18446744073709551616 := Nat.lt_of_le_of_lt (Nat.div_le_self _ _) hax
  have q1 : (x.natAbs : Int) / (Nat.gcd x.natAbs y.natAbs : Nat) = ((x.natAbs / Nat.gcd x.natAbs y.natAbs : Nat) : Int) := (Int.natCast_ediv _ _).symm
  have lc := lcm_div (a := x.natAbs) (b := y.natAbs)
  have cc := fun w => rCommon x.natAbs y.natAbs hax hay w
  have sx := fun w => rSize x hx' w
  have sy := fun w => rSize y hy' w
  generalize x.natAbs = A at *
  generalize y.natAbs = B at *
  generalize Nat.gcd A B = G at *
  generalize A / G = Q at *
  generalize Nat.lcm A B = L at *
  have hG0 : ((G : Int) == 0) = false := by simp; omega
  by_cases c2 : L < 18446744073709551616
  · have cp := fun w => rProductYes Q B hd hay (by rw [lc]; exact c2) w
    rw [lc] at cp
    have cs := fun w => rSigned false L c2 w
    rw [show sgd false L = (L : Int) from rfl] at cs
    clear lc
    go_enter Try.func33, Try.ntmps33
    go_wp2_with go_in
    go_quiet ((first | (go_at_call 69; with_reducible exact Calls.quiet_of_same (sx _)) | (go_at_call 69; with_reducible exact Calls.quiet_of_same (sy _)) | (go_at_call 76; exact Calls.quiet_of (cc _)) | (go_at_call 77; exact Calls.quiet_of_same (cp _))))
    go_wp2_with (first | (go_at_call 68; refine (cs _).mono ?_; rintro e w' ⟨rfl, rfl⟩) | go_in)
    go_ret2
    exact ⟨rfl, _, rfl⟩
  · have cp := fun w => rProductNo Q B hd hay (by rw [lc]; omega) w
    have c3 : inr (L : Nat) = false := inr_no.2 (by omega)
    rw [cut_no c3, ovr_no c3]
    clear lc c3
    go_enter Try.func33, Try.ntmps33
    go_wp2_with go_in
    go_quiet ((first | (go_at_call 69; with_reducible exact Calls.quiet_of_same (sx _)) | (go_at_call 69; with_reducible exact Calls.quiet_of_same (sy _)) | (go_at_call 76; exact Calls.quiet_of (cc _)) | (go_at_call 77; exact Calls.quiet_of_same (cp _))))
    go_wp2_with go_in
    go_ret2
    exact ⟨rfl, _, rfl⟩
set_option maxRecDepth 20000 in
theorem rDyad16 (x y : Int) (hx : inr x = true) (hy : inr y = true) (w : World) :
    Calls Try.prog 33 #[.int .i64 16, .int .i64 x, .int .i64 y] w fun e w' => e = .returned (.tuple #[.int .i64 (norN x y), .int .i64 (bitE x y)]) ∧ w' = w := by
  clear hx hy
  by_cases x0 : x = 0 ∨ x = 1
  · by_cases y0 : y = 0 ∨ y = 1
    · rcases x0 with x0 | x0 <;> rcases y0 with y0 | y0 <;> subst x0 y0
      all_goals
        go_enter Try.func33, Try.ntmps33
        go_wp2
        go_ret2
        exact ⟨rfl, rfl⟩
    · have t1 : (y == 0) = false := by simp; omega
      have t2 : (y == 1) = false := by simp; omega
      have e : isT y = false := by unfold isT; rw [t1, t2]; rfl
      have e1 : norN x y = 0 := by unfold norN bitB; simp [e]
      have e2 : bitE x y = 10 := by unfold bitE bitB; simp [e]
      rw [e1, e2]
      clear e e1 e2 y0
      rcases x0 with x0 | x0 <;> subst x0
      all_goals
        go_enter Try.func33, Try.ntmps33
        go_wp2
        go_ret2
        exact ⟨rfl, rfl⟩
  · have t1 : (x == 0) = false := by simp; omega
    have t2 : (x == 1) = false := by simp; omega
    have e : isT x = false := by unfold isT; rw [t1, t2]; rfl
    have e1 : norN x y = 0 := by unfold norN bitB; simp [e]
    have e2 : bitE x y = 10 := by unfold bitE bitB; simp [e]
    rw [e1, e2]
    clear e e1 e2 x0
    go_enter Try.func33, Try.ntmps33
    go_wp2
    go_ret2
    exact ⟨rfl, rfl⟩
set_option maxRecDepth 20000 in
theorem rDyad17 (x y : Int) (hx : inr x = true) (hy : inr y = true) (w : World) :
    Calls Try.prog 33 #[.int .i64 17, .int .i64 x, .int .i64 y] w fun e w' => e = .returned (.tuple #[.int .i64 (nandN x y), .int .i64 (bitE x y)]) ∧ w' = w := by
  clear hx hy
  by_cases x0 : x = 0 ∨ x = 1
  · by_cases y0 : y = 0 ∨ y = 1
    · rcases x0 with x0 | x0 <;> rcases y0 with y0 | y0 <;> subst x0 y0
      all_goals
        go_enter Try.func33, Try.ntmps33
        go_wp2
        go_ret2
        exact ⟨rfl, rfl⟩
    · have t1 : (y == 0) = false := by simp; omega
      have t2 : (y == 1) = false := by simp; omega
      have e : isT y = false := by unfold isT; rw [t1, t2]; rfl
      have e1 : nandN x y = 0 := by unfold nandN bitB; simp [e]
      have e2 : bitE x y = 10 := by unfold bitE bitB; simp [e]
      rw [e1, e2]
      clear e e1 e2 y0
      rcases x0 with x0 | x0 <;> subst x0
      all_goals
        go_enter Try.func33, Try.ntmps33
        go_wp2
        go_ret2
        exact ⟨rfl, rfl⟩
  · have t1 : (x == 0) = false := by simp; omega
    have t2 : (x == 1) = false := by simp; omega
    have e : isT x = false := by unfold isT; rw [t1, t2]; rfl
    have e1 : nandN x y = 0 := by unfold nandN bitB; simp [e]
    have e2 : bitE x y = 10 := by unfold bitE bitB; simp [e]
    rw [e1, e2]
    clear e e1 e2 x0
    go_enter Try.func33, Try.ntmps33
    go_wp2
    go_ret2
    exact ⟨rfl, rfl⟩
set_option maxRecDepth 20000 in
set_option maxRecDepth 20000 in
set_option maxRecDepth 20000 in
set_option maxRecDepth 20000 in
set_option maxRecDepth 20000 in
theorem rMonadOther_lo (op y : Int) (h : op < 1) (w : World) :
    Calls Try.prog 30 #[.int .i64 op, .int .i64 y] w fun e w' => e = .returned (.tuple #[.int .i64 0, .int .i64 1]) ∧ w' = w := by
  have d1 : decide (op < 1) = true := by simpa using h
  have d1 : decide (1 ≤ op) = false := by simp; omega
  have d2 : decide (op ≤ 21) = true := by simp; omega
  go_enter Try.func30, Try.ntmps30
  go_wp2
  go_ret2
  exact ⟨rfl, rfl⟩
set_option maxRecDepth 20000 in
theorem rMonadOther_hi (op y : Int) (h : 21 < op) (w : World) :
    Calls Try.prog 30 #[.int .i64 op, .int .i64 y] w fun e w' => e = .returned (.tuple #[.int .i64 0, .int .i64 1]) ∧ w' = w := by
  have d1 : decide (1 ≤ op) = true := by simp; omega
  have d2 : decide (op ≤ 21) = false := by simp; omega
  go_enter Try.func30, Try.ntmps30
  go_wp2
  go_ret2
  exact ⟨rfl, rfl⟩
set_option maxRecDepth 20000 in
theorem rDyadOther_lo (op x y : Int) (h : op < 1) (w : World) :
    Calls Try.prog 33 #[.int .i64 op, .int .i64 x, .int .i64 y] w fun e w' => e = .returned (.tuple #[.int .i64 0, .int .i64 1]) ∧ w' = w := by
  have d1 : decide (op < 1) = true := by simpa using h
  have d1 : decide (1 ≤ op) = false := by simp; omega
  have d2 : decide (op ≤ 21) = true := by simp; omega
  go_enter Try.func33, Try.ntmps33
  go_wp2
  go_ret2
  exact ⟨rfl, rfl⟩
set_option maxRecDepth 20000 in
theorem rDyadOther_hi (op x y : Int) (h : 21 < op) (w : World) :
    Calls Try.prog 33 #[.int .i64 op, .int .i64 x, .int .i64 y] w fun e w' => e = .returned (.tuple #[.int .i64 0, .int .i64 1]) ∧ w' = w := by
  have d1 : decide (1 ≤ op) = true := by simp; omega
  have d2 : decide (op ≤ 21) = false := by simp; omega
  go_enter Try.func33, Try.ntmps33
  go_wp2
  go_ret2
  exact ⟨rfl, rfl⟩
end Go.Proofs.Ytpkednlfhdpdhaa.Nm
