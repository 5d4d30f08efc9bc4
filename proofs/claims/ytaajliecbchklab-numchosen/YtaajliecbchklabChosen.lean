/- The walk of the law NumChosen: for every two numbers of 64 bits it answers true. -/
import Derived.Test.YtaajliecbchklabBegun
import Derived.Test.YtaajliecbchklabMath4
import Derived.Test.YtaajliecbchklabTable21
namespace Go.Proofs.Ytaajliecbchklab
open Go.RowKit
set_option linter.unusedVariables false

theorem inr_factN (n : Int) : inr (factN n) = true := by unfold factN; split; exact rfl; exact inr_cut _
theorem inr_chooseN (x n : Int) : inr (chooseN x n) = true := by unfold chooseN; split; exact rfl; exact inr_cut _

theorem chosen_few (x n : Int) (h1 : n < 1) (w : World) :
    Calls Try.prog 3 #[.int .i64 x, .int .i64 n] w fun e w' => e = .returned (.bool true) ∧ ∃ n, w' = w.drewN n := by
  go_enter Try.func3, Try.ntmps3
  go_wp2_with (go_at_call 6; refine (begun_any _).mono ?_; rintro e w' ⟨rfl, n, rfl⟩)
  go_ret
  exact ⟨rfl, _, rfl⟩

theorem chosen_out0 (x n : Int) (hx : inr x = true) (hn : inr n = true) (h1 : 1 ≤ n) (f1 : factE n = 0) (f2 : factE (n - 1) = 0) (f3 : inr (n * factN (n - 1)) = true) (f4 : cut (n * factN (n - 1)) = factN n) (h : x < 0 ∨ n < x) (w : World) :
    Calls Try.prog 3 #[.int .i64 x, .int .i64 n] w fun e w' => e = .returned (.bool true) ∧ ∃ n, w' = w.drewN n := by
  have hn1 : inr (n - 1) = true := by rw [inr_iff] at hn ⊢; omega
  have cA := fun w => monad21 n hn w
  have cB := fun w => monad21 (n - 1) hn1 w
  have cC := fun w => mul64 n (factN (n - 1)) hn (inr_factN _) w
  have cP := fun w => dyad21 x n hx hn w
  obtain ⟨p1, p2⟩ := choose_out (x := x) (n := n) (by omega) h
  rw [p1, p2] at cP
  clear p1 p2
  rw [f1] at cA
  rw [f2] at cB
  rw [f3] at cC
  rw [f4] at cC
  clear f1 f2 f3 f4
  generalize factN (n - 1) = B at cB cC
  generalize factN n = A at cA cC
  rw [inr_iff] at hx hn hn1
  by_cases hs : x < 0
  · have d1 : decide (x < 0) = true := by simpa using hs
    go_enter Try.func3, Try.ntmps3
    go_wp2_with (first | (go_at_call 6; refine (begun_any _).mono ?_; rintro e w' ⟨rfl, n, rfl⟩) | (go_at_call 7; (with_reducible refine (cA _).mono ?_); rintro e w' ⟨rfl, rfl⟩) | (go_at_call 7; (with_reducible refine (cB _).mono ?_); rintro e w' ⟨rfl, rfl⟩) | (go_at_call 8; (with_reducible refine (cC _).mono ?_); rintro e w' ⟨rfl, rfl⟩) | (go_at_call 9; (with_reducible refine (cP _).mono ?_); rintro e w' ⟨rfl, n, rfl⟩))
    go_ret
    exact ⟨rfl, _, rfl⟩
  · have d1 : decide (x < 0) = false := by simpa using hs
    have d2 : decide (n < x) = true := by simp; omega
    go_enter Try.func3, Try.ntmps3
    go_wp2_with (first | (go_at_call 6; refine (begun_any _).mono ?_; rintro e w' ⟨rfl, n, rfl⟩) | (go_at_call 7; (with_reducible refine (cA _).mono ?_); rintro e w' ⟨rfl, rfl⟩) | (go_at_call 7; (with_reducible refine (cB _).mono ?_); rintro e w' ⟨rfl, rfl⟩) | (go_at_call 8; (with_reducible refine (cC _).mono ?_); rintro e w' ⟨rfl, rfl⟩) | (go_at_call 9; (with_reducible refine (cP _).mono ?_); rintro e w' ⟨rfl, n, rfl⟩))
    go_ret
    exact ⟨rfl, _, rfl⟩

theorem chosen_none0 (x n : Int) (hx : inr x = true) (hn : inr n = true) (h1 : 1 ≤ n) (f1 : factE n = 0) (f2 : factE (n - 1) = 0) (f3 : inr (n * factN (n - 1)) = true) (f4 : cut (n * factN (n - 1)) = factN n) (h : x = 0) (w : World) :
    Calls Try.prog 3 #[.int .i64 x, .int .i64 n] w fun e w' => e = .returned (.bool true) ∧ ∃ n, w' = w.drewN n := by
  have hx0 : 0 ≤ x := by omega
  have hx1 : x ≤ n := by omega
  have d1 : decide (x < 0) = false := by simp; omega
  have d2 : decide (n < x) = false := by simp; omega
  have d3 : (x == 0) = true := by simp; omega
  have hn1 : inr (n - 1) = true := by rw [inr_iff] at hn ⊢; omega
  have cA := fun w => monad21 n hn w
  have cB := fun w => monad21 (n - 1) hn1 w
  have cC := fun w => mul64 n (factN (n - 1)) hn (inr_factN _) w
  have cP := fun w => dyad21 x n hx hn w
  have hm := choose_mirror (x := x) (n := n) hx0 hx1
  have hi3 : inr (n - x) = true := by rw [inr_iff] at hn ⊢; omega
  have hi4 : inr (x - 1) = true := by rw [inr_iff] at hx ⊢; omega
  have cR := fun w => dyad21 (n - x) n hi3 hn w
  have cU := fun w => dyad21 (x - 1) (n - 1) hi4 hn1 w
  have cV := fun w => dyad21 x (n - 1) hx hn1 w
  have cS := fun w => add64 (chooseN (x - 1) (n - 1)) (chooseN x (n - 1)) (inr_chooseN _ _) (inr_chooseN _ _) w
  rw [hm.1, hm.2] at cR
  clear hm
  obtain ⟨p1, p2⟩ := choose_none (n := n) (by omega)
  rw [h, p1, p2] at cP
  rw [h, p1, p2] at cR
  rw [← h] at cP
  rw [← h] at cR
  clear p1 p2 h
  rw [f1] at cA
  rw [f2] at cB
  rw [f3] at cC
  rw [f4] at cC
  clear f1 f2 f3 f4
  generalize factN (n - 1) = B at cB cC
  generalize factN n = A at cA cC
  rw [inr_iff] at hx hn hn1
  go_enter Try.func3, Try.ntmps3
  go_wp2_with (first | (go_at_call 6; refine (begun_any _).mono ?_; rintro e w' ⟨rfl, n, rfl⟩) | (go_at_call 7; (with_reducible refine (cA _).mono ?_); rintro e w' ⟨rfl, rfl⟩) | (go_at_call 7; (with_reducible refine (cB _).mono ?_); rintro e w' ⟨rfl, rfl⟩) | (go_at_call 8; (with_reducible refine (cC _).mono ?_); rintro e w' ⟨rfl, rfl⟩) | (go_at_call 9; (with_reducible refine (cP _).mono ?_); rintro e w' ⟨rfl, n, rfl⟩) | (go_at_call 9; (with_reducible refine (cR _).mono ?_); rintro e w' ⟨rfl, n, rfl⟩) | (go_at_call 9; (with_reducible refine (cU _).mono ?_); rintro e w' ⟨rfl, n, rfl⟩) | (go_at_call 9; (with_reducible refine (cV _).mono ?_); rintro e w' ⟨rfl, n, rfl⟩) | (go_at_call 10; (with_reducible refine (cS _).mono ?_); rintro e w' ⟨rfl, rfl⟩))
  go_ret
  exact ⟨rfl, _, rfl⟩

theorem chosen_in0_0 (x n : Int) (hx : inr x = true) (hn : inr n = true) (h1 : 1 ≤ n) (f1 : factE n = 0) (f2 : factE (n - 1) = 0) (f3 : inr (n * factN (n - 1)) = true) (f4 : cut (n * factN (n - 1)) = factN n) (hx1 : x ≤ n) (h : 1 ≤ x) (q1 : chooseE x n = 0) (q2 : chooseE (x - 1) (n - 1) = 0) (q3 : chooseE x (n - 1) = 0) (q4 : inr (chooseN (x - 1) (n - 1) + chooseN x (n - 1)) = true) (q5 : cut (chooseN (x - 1) (n - 1) + chooseN x (n - 1)) = chooseN x n) (w : World) :
    Calls Try.prog 3 #[.int .i64 x, .int .i64 n] w fun e w' => e = .returned (.bool true) ∧ ∃ n, w' = w.drewN n := by
  have hx0 : 0 ≤ x := by omega
  have d1 : decide (x < 0) = false := by simp; omega
  have d2 : decide (n < x) = false := by simp; omega
  have d3 : (x == 0) = false := by simp; omega
  have hn1 : inr (n - 1) = true := by rw [inr_iff] at hn ⊢; omega
  have cA := fun w => monad21 n hn w
  have cB := fun w => monad21 (n - 1) hn1 w
  have cC := fun w => mul64 n (factN (n - 1)) hn (inr_factN _) w
  have cP := fun w => dyad21 x n hx hn w
  have hm := choose_mirror (x := x) (n := n) hx0 hx1
  have hi3 : inr (n - x) = true := by rw [inr_iff] at hn ⊢; omega
  have hi4 : inr (x - 1) = true := by rw [inr_iff] at hx ⊢; omega
  have cR := fun w => dyad21 (n - x) n hi3 hn w
  have cU := fun w => dyad21 (x - 1) (n - 1) hi4 hn1 w
  have cV := fun w => dyad21 x (n - 1) hx hn1 w
  have cS := fun w => add64 (chooseN (x - 1) (n - 1)) (chooseN x (n - 1)) (inr_chooseN _ _) (inr_chooseN _ _) w
  rw [hm.1, hm.2] at cR
  clear hm
  rw [q1] at cP cR
  rw [q2] at cU
  rw [q3] at cV
  rw [q4, q5] at cS
  clear q1 q2 q3 q4 q5
  generalize chooseN (x - 1) (n - 1) = U at cU cS
  generalize chooseN x (n - 1) = V at cV cS
  generalize chooseN x n = P at cP cR cS
  rw [f1] at cA
  rw [f2] at cB
  rw [f3] at cC
  rw [f4] at cC
  clear f1 f2 f3 f4
  generalize factN (n - 1) = B at cB cC
  generalize factN n = A at cA cC
  rw [inr_iff] at hx hn hn1
  go_enter Try.func3, Try.ntmps3
  go_wp2_with (first | (go_at_call 6; refine (begun_any _).mono ?_; rintro e w' ⟨rfl, n, rfl⟩) | (go_at_call 7; (with_reducible refine (cA _).mono ?_); rintro e w' ⟨rfl, rfl⟩) | (go_at_call 7; (with_reducible refine (cB _).mono ?_); rintro e w' ⟨rfl, rfl⟩) | (go_at_call 8; (with_reducible refine (cC _).mono ?_); rintro e w' ⟨rfl, rfl⟩) | (go_at_call 9; (with_reducible refine (cP _).mono ?_); rintro e w' ⟨rfl, n, rfl⟩) | (go_at_call 9; (with_reducible refine (cR _).mono ?_); rintro e w' ⟨rfl, n, rfl⟩) | (go_at_call 9; (with_reducible refine (cU _).mono ?_); rintro e w' ⟨rfl, n, rfl⟩) | (go_at_call 9; (with_reducible refine (cV _).mono ?_); rintro e w' ⟨rfl, n, rfl⟩) | (go_at_call 10; (with_reducible refine (cS _).mono ?_); rintro e w' ⟨rfl, rfl⟩))
  go_ret
  exact ⟨rfl, _, rfl⟩

theorem chosen_in0_1 (x n : Int) (hx : inr x = true) (hn : inr n = true) (h1 : 1 ≤ n) (f1 : factE n = 0) (f2 : factE (n - 1) = 0) (f3 : inr (n * factN (n - 1)) = true) (f4 : cut (n * factN (n - 1)) = factN n) (hx1 : x ≤ n) (h : 1 ≤ x) (q1 : chooseE x n = 14) (q2 : chooseE (x - 1) (n - 1) = 14) (w : World) :
    Calls Try.prog 3 #[.int .i64 x, .int .i64 n] w fun e w' => e = .returned (.bool true) ∧ ∃ n, w' = w.drewN n := by
  have hx0 : 0 ≤ x := by omega
  have d1 : decide (x < 0) = false := by simp; omega
  have d2 : decide (n < x) = false := by simp; omega
  have d3 : (x == 0) = false := by simp; omega
  have hn1 : inr (n - 1) = true := by rw [inr_iff] at hn ⊢; omega
  have cA := fun w => monad21 n hn w
  have cB := fun w => monad21 (n - 1) hn1 w
  have cC := fun w => mul64 n (factN (n - 1)) hn (inr_factN _) w
  have cP := fun w => dyad21 x n hx hn w
  have hm := choose_mirror (x := x) (n := n) hx0 hx1
  have hi3 : inr (n - x) = true := by rw [inr_iff] at hn ⊢; omega
  have hi4 : inr (x - 1) = true := by rw [inr_iff] at hx ⊢; omega
  have cR := fun w => dyad21 (n - x) n hi3 hn w
  have cU := fun w => dyad21 (x - 1) (n - 1) hi4 hn1 w
  have cV := fun w => dyad21 x (n - 1) hx hn1 w
  have cS := fun w => add64 (chooseN (x - 1) (n - 1)) (chooseN x (n - 1)) (inr_chooseN _ _) (inr_chooseN _ _) w
  rw [hm.1, hm.2] at cR
  clear hm
  rw [q1] at cP cR
  rw [q2] at cU
  clear q1 q2
  generalize cut (chooseN (x - 1) (n - 1) + chooseN x (n - 1)) = S1 at cS
  generalize inr (chooseN (x - 1) (n - 1) + chooseN x (n - 1)) = S2 at cS
  generalize chooseE x (n - 1) = EV at cV
  generalize chooseN (x - 1) (n - 1) = U at cU cS
  generalize chooseN x (n - 1) = V at cV cS
  generalize chooseN x n = P at cP cR
  rw [f1] at cA
  rw [f2] at cB
  rw [f3] at cC
  rw [f4] at cC
  clear f1 f2 f3 f4
  generalize factN (n - 1) = B at cB cC
  generalize factN n = A at cA cC
  rw [inr_iff] at hx hn hn1
  go_enter Try.func3, Try.ntmps3
  go_wp2_with (first | (go_at_call 6; refine (begun_any _).mono ?_; rintro e w' ⟨rfl, n, rfl⟩) | (go_at_call 7; (with_reducible refine (cA _).mono ?_); rintro e w' ⟨rfl, rfl⟩) | (go_at_call 7; (with_reducible refine (cB _).mono ?_); rintro e w' ⟨rfl, rfl⟩) | (go_at_call 8; (with_reducible refine (cC _).mono ?_); rintro e w' ⟨rfl, rfl⟩) | (go_at_call 9; (with_reducible refine (cP _).mono ?_); rintro e w' ⟨rfl, n, rfl⟩) | (go_at_call 9; (with_reducible refine (cR _).mono ?_); rintro e w' ⟨rfl, n, rfl⟩) | (go_at_call 9; (with_reducible refine (cU _).mono ?_); rintro e w' ⟨rfl, n, rfl⟩) | (go_at_call 9; (with_reducible refine (cV _).mono ?_); rintro e w' ⟨rfl, n, rfl⟩) | (go_at_call 10; (with_reducible refine (cS _).mono ?_); rintro e w' ⟨rfl, rfl⟩))
  go_ret
  exact ⟨rfl, _, rfl⟩

theorem chosen_in0_2 (x n : Int) (hx : inr x = true) (hn : inr n = true) (h1 : 1 ≤ n) (f1 : factE n = 0) (f2 : factE (n - 1) = 0) (f3 : inr (n * factN (n - 1)) = true) (f4 : cut (n * factN (n - 1)) = factN n) (hx1 : x ≤ n) (h : 1 ≤ x) (q1 : chooseE x n = 14) (q2 : chooseE (x - 1) (n - 1) = 0) (q3 : chooseE x (n - 1) = 14) (w : World) :
    Calls Try.prog 3 #[.int .i64 x, .int .i64 n] w fun e w' => e = .returned (.bool true) ∧ ∃ n, w' = w.drewN n := by
  have hx0 : 0 ≤ x := by omega
  have d1 : decide (x < 0) = false := by simp; omega
  have d2 : decide (n < x) = false := by simp; omega
  have d3 : (x == 0) = false := by simp; omega
  have hn1 : inr (n - 1) = true := by rw [inr_iff] at hn ⊢; omega
  have cA := fun w => monad21 n hn w
  have cB := fun w => monad21 (n - 1) hn1 w
  have cC := fun w => mul64 n (factN (n - 1)) hn (inr_factN _) w
  have cP := fun w => dyad21 x n hx hn w
  have hm := choose_mirror (x := x) (n := n) hx0 hx1
  have hi3 : inr (n - x) = true := by rw [inr_iff] at hn ⊢; omega
  have hi4 : inr (x - 1) = true := by rw [inr_iff] at hx ⊢; omega
  have cR := fun w => dyad21 (n - x) n hi3 hn w
  have cU := fun w => dyad21 (x - 1) (n - 1) hi4 hn1 w
  have cV := fun w => dyad21 x (n - 1) hx hn1 w
  have cS := fun w => add64 (chooseN (x - 1) (n - 1)) (chooseN x (n - 1)) (inr_chooseN _ _) (inr_chooseN _ _) w
  rw [hm.1, hm.2] at cR
  clear hm
  rw [q1] at cP cR
  rw [q2] at cU
  rw [q3] at cV
  clear q1 q2 q3
  generalize cut (chooseN (x - 1) (n - 1) + chooseN x (n - 1)) = S1 at cS
  generalize inr (chooseN (x - 1) (n - 1) + chooseN x (n - 1)) = S2 at cS
  generalize chooseN (x - 1) (n - 1) = U at cU cS
  generalize chooseN x (n - 1) = V at cV cS
  generalize chooseN x n = P at cP cR
  rw [f1] at cA
  rw [f2] at cB
  rw [f3] at cC
  rw [f4] at cC
  clear f1 f2 f3 f4
  generalize factN (n - 1) = B at cB cC
  generalize factN n = A at cA cC
  rw [inr_iff] at hx hn hn1
  go_enter Try.func3, Try.ntmps3
  go_wp2_with (first | (go_at_call 6; refine (begun_any _).mono ?_; rintro e w' ⟨rfl, n, rfl⟩) | (go_at_call 7; (with_reducible refine (cA _).mono ?_); rintro e w' ⟨rfl, rfl⟩) | (go_at_call 7; (with_reducible refine (cB _).mono ?_); rintro e w' ⟨rfl, rfl⟩) | (go_at_call 8; (with_reducible refine (cC _).mono ?_); rintro e w' ⟨rfl, rfl⟩) | (go_at_call 9; (with_reducible refine (cP _).mono ?_); rintro e w' ⟨rfl, n, rfl⟩) | (go_at_call 9; (with_reducible refine (cR _).mono ?_); rintro e w' ⟨rfl, n, rfl⟩) | (go_at_call 9; (with_reducible refine (cU _).mono ?_); rintro e w' ⟨rfl, n, rfl⟩) | (go_at_call 9; (with_reducible refine (cV _).mono ?_); rintro e w' ⟨rfl, n, rfl⟩) | (go_at_call 10; (with_reducible refine (cS _).mono ?_); rintro e w' ⟨rfl, rfl⟩))
  go_ret
  exact ⟨rfl, _, rfl⟩

theorem chosen_in0_3 (x n : Int) (hx : inr x = true) (hn : inr n = true) (h1 : 1 ≤ n) (f1 : factE n = 0) (f2 : factE (n - 1) = 0) (f3 : inr (n * factN (n - 1)) = true) (f4 : cut (n * factN (n - 1)) = factN n) (hx1 : x ≤ n) (h : 1 ≤ x) (q1 : chooseE x n = 14) (q2 : chooseE (x - 1) (n - 1) = 0) (q3 : chooseE x (n - 1) = 0) (q4 : inr (chooseN (x - 1) (n - 1) + chooseN x (n - 1)) = false) (w : World) :
    Calls Try.prog 3 #[.int .i64 x, .int .i64 n] w fun e w' => e = .returned (.bool true) ∧ ∃ n, w' = w.drewN n := by
  have hx0 : 0 ≤ x := by omega
  have d1 : decide (x < 0) = false := by simp; omega
  have d2 : decide (n < x) = false := by simp; omega
  have d3 : (x == 0) = false := by simp; omega
  have hn1 : inr (n - 1) = true := by rw [inr_iff] at hn ⊢; omega
  have cA := fun w => monad21 n hn w
  have cB := fun w => monad21 (n - 1) hn1 w
  have cC := fun w => mul64 n (factN (n - 1)) hn (inr_factN _) w
  have cP := fun w => dyad21 x n hx hn w
  have hm := choose_mirror (x := x) (n := n) hx0 hx1
  have hi3 : inr (n - x) = true := by rw [inr_iff] at hn ⊢; omega
  have hi4 : inr (x - 1) = true := by rw [inr_iff] at hx ⊢; omega
  have cR := fun w => dyad21 (n - x) n hi3 hn w
  have cU := fun w => dyad21 (x - 1) (n - 1) hi4 hn1 w
  have cV := fun w => dyad21 x (n - 1) hx hn1 w
  have cS := fun w => add64 (chooseN (x - 1) (n - 1)) (chooseN x (n - 1)) (inr_chooseN _ _) (inr_chooseN _ _) w
  rw [hm.1, hm.2] at cR
  clear hm
  rw [q1] at cP cR
  rw [q2] at cU
  rw [q3] at cV
  rw [q4, cut_no q4] at cS
  clear q1 q2 q3 q4
  generalize chooseN (x - 1) (n - 1) = U at cU cS
  generalize chooseN x (n - 1) = V at cV cS
  generalize chooseN x n = P at cP cR
  rw [f1] at cA
  rw [f2] at cB
  rw [f3] at cC
  rw [f4] at cC
  clear f1 f2 f3 f4
  generalize factN (n - 1) = B at cB cC
  generalize factN n = A at cA cC
  rw [inr_iff] at hx hn hn1
  go_enter Try.func3, Try.ntmps3
  go_wp2_with (first | (go_at_call 6; refine (begun_any _).mono ?_; rintro e w' ⟨rfl, n, rfl⟩) | (go_at_call 7; (with_reducible refine (cA _).mono ?_); rintro e w' ⟨rfl, rfl⟩) | (go_at_call 7; (with_reducible refine (cB _).mono ?_); rintro e w' ⟨rfl, rfl⟩) | (go_at_call 8; (with_reducible refine (cC _).mono ?_); rintro e w' ⟨rfl, rfl⟩) | (go_at_call 9; (with_reducible refine (cP _).mono ?_); rintro e w' ⟨rfl, n, rfl⟩) | (go_at_call 9; (with_reducible refine (cR _).mono ?_); rintro e w' ⟨rfl, n, rfl⟩) | (go_at_call 9; (with_reducible refine (cU _).mono ?_); rintro e w' ⟨rfl, n, rfl⟩) | (go_at_call 9; (with_reducible refine (cV _).mono ?_); rintro e w' ⟨rfl, n, rfl⟩) | (go_at_call 10; (with_reducible refine (cS _).mono ?_); rintro e w' ⟨rfl, rfl⟩))
  go_ret
  exact ⟨rfl, _, rfl⟩

theorem chosen_out1 (x n : Int) (hx : inr x = true) (hn : inr n = true) (h1 : 1 ≤ n) (f1 : factE n = 14) (f2 : factE (n - 1) = 0) (f3 : inr (n * factN (n - 1)) = false) (h : x < 0 ∨ n < x) (w : World) :
    Calls Try.prog 3 #[.int .i64 x, .int .i64 n] w fun e w' => e = .returned (.bool true) ∧ ∃ n, w' = w.drewN n := by
  have hn1 : inr (n - 1) = true := by rw [inr_iff] at hn ⊢; omega
  have cA := fun w => monad21 n hn w
  have cB := fun w => monad21 (n - 1) hn1 w
  have cC := fun w => mul64 n (factN (n - 1)) hn (inr_factN _) w
  have cP := fun w => dyad21 x n hx hn w
  obtain ⟨p1, p2⟩ := choose_out (x := x) (n := n) (by omega) h
  rw [p1, p2] at cP
  clear p1 p2
  rw [f1] at cA
  rw [f2] at cB
  rw [f3] at cC
  rw [cut_no f3] at cC
  clear f1 f2 f3
  generalize factN (n - 1) = B at cB cC
  generalize factN n = A at cA
  rw [inr_iff] at hx hn hn1
  by_cases hs : x < 0
  · have d1 : decide (x < 0) = true := by simpa using hs
    go_enter Try.func3, Try.ntmps3
    go_wp2_with (first | (go_at_call 6; refine (begun_any _).mono ?_; rintro e w' ⟨rfl, n, rfl⟩) | (go_at_call 7; (with_reducible refine (cA _).mono ?_); rintro e w' ⟨rfl, rfl⟩) | (go_at_call 7; (with_reducible refine (cB _).mono ?_); rintro e w' ⟨rfl, rfl⟩) | (go_at_call 8; (with_reducible refine (cC _).mono ?_); rintro e w' ⟨rfl, rfl⟩) | (go_at_call 9; (with_reducible refine (cP _).mono ?_); rintro e w' ⟨rfl, n, rfl⟩))
    go_ret
    exact ⟨rfl, _, rfl⟩
  · have d1 : decide (x < 0) = false := by simpa using hs
    have d2 : decide (n < x) = true := by simp; omega
    go_enter Try.func3, Try.ntmps3
    go_wp2_with (first | (go_at_call 6; refine (begun_any _).mono ?_; rintro e w' ⟨rfl, n, rfl⟩) | (go_at_call 7; (with_reducible refine (cA _).mono ?_); rintro e w' ⟨rfl, rfl⟩) | (go_at_call 7; (with_reducible refine (cB _).mono ?_); rintro e w' ⟨rfl, rfl⟩) | (go_at_call 8; (with_reducible refine (cC _).mono ?_); rintro e w' ⟨rfl, rfl⟩) | (go_at_call 9; (with_reducible refine (cP _).mono ?_); rintro e w' ⟨rfl, n, rfl⟩))
    go_ret
    exact ⟨rfl, _, rfl⟩

theorem chosen_none1 (x n : Int) (hx : inr x = true) (hn : inr n = true) (h1 : 1 ≤ n) (f1 : factE n = 14) (f2 : factE (n - 1) = 0) (f3 : inr (n * factN (n - 1)) = false) (h : x = 0) (w : World) :
    Calls Try.prog 3 #[.int .i64 x, .int .i64 n] w fun e w' => e = .returned (.bool true) ∧ ∃ n, w' = w.drewN n := by
  have hx0 : 0 ≤ x := by omega
  have hx1 : x ≤ n := by omega
  have d1 : decide (x < 0) = false := by simp; omega
  have d2 : decide (n < x) = false := by simp; omega
  have d3 : (x == 0) = true := by simp; omega
  have hn1 : inr (n - 1) = true := by rw [inr_iff] at hn ⊢; omega
  have cA := fun w => monad21 n hn w
  have cB := fun w => monad21 (n - 1) hn1 w
  have cC := fun w => mul64 n (factN (n - 1)) hn (inr_factN _) w
  have cP := fun w => dyad21 x n hx hn w
  have hm := choose_mirror (x := x) (n := n) hx0 hx1
  have hi3 : inr (n - x) = true := by rw [inr_iff] at hn ⊢; omega
  have hi4 : inr (x - 1) = true := by rw [inr_iff] at hx ⊢; omega
  have cR := fun w => dyad21 (n - x) n hi3 hn w
  have cU := fun w => dyad21 (x - 1) (n - 1) hi4 hn1 w
  have cV := fun w => dyad21 x (n - 1) hx hn1 w
  have cS := fun w => add64 (chooseN (x - 1) (n - 1)) (chooseN x (n - 1)) (inr_chooseN _ _) (inr_chooseN _ _) w
  rw [hm.1, hm.2] at cR
  clear hm
  obtain ⟨p1, p2⟩ := choose_none (n := n) (by omega)
  rw [h, p1, p2] at cP
  rw [h, p1, p2] at cR
  rw [← h] at cP
  rw [← h] at cR
  clear p1 p2 h
  rw [f1] at cA
  rw [f2] at cB
  rw [f3] at cC
  rw [cut_no f3] at cC
  clear f1 f2 f3
  generalize factN (n - 1) = B at cB cC
  generalize factN n = A at cA
  rw [inr_iff] at hx hn hn1
  go_enter Try.func3, Try.ntmps3
  go_wp2_with (first | (go_at_call 6; refine (begun_any _).mono ?_; rintro e w' ⟨rfl, n, rfl⟩) | (go_at_call 7; (with_reducible refine (cA _).mono ?_); rintro e w' ⟨rfl, rfl⟩) | (go_at_call 7; (with_reducible refine (cB _).mono ?_); rintro e w' ⟨rfl, rfl⟩) | (go_at_call 8; (with_reducible refine (cC _).mono ?_); rintro e w' ⟨rfl, rfl⟩) | (go_at_call 9; (with_reducible refine (cP _).mono ?_); rintro e w' ⟨rfl, n, rfl⟩) | (go_at_call 9; (with_reducible refine (cR _).mono ?_); rintro e w' ⟨rfl, n, rfl⟩) | (go_at_call 9; (with_reducible refine (cU _).mono ?_); rintro e w' ⟨rfl, n, rfl⟩) | (go_at_call 9; (with_reducible refine (cV _).mono ?_); rintro e w' ⟨rfl, n, rfl⟩) | (go_at_call 10; (with_reducible refine (cS _).mono ?_); rintro e w' ⟨rfl, rfl⟩))
  go_ret
  exact ⟨rfl, _, rfl⟩

theorem chosen_in1_0 (x n : Int) (hx : inr x = true) (hn : inr n = true) (h1 : 1 ≤ n) (f1 : factE n = 14) (f2 : factE (n - 1) = 0) (f3 : inr (n * factN (n - 1)) = false) (hx1 : x ≤ n) (h : 1 ≤ x) (q1 : chooseE x n = 0) (q2 : chooseE (x - 1) (n - 1) = 0) (q3 : chooseE x (n - 1) = 0) (q4 : inr (chooseN (x - 1) (n - 1) + chooseN x (n - 1)) = true) (q5 : cut (chooseN (x - 1) (n - 1) + chooseN x (n - 1)) = chooseN x n) (w : World) :
    Calls Try.prog 3 #[.int .i64 x, .int .i64 n] w fun e w' => e = .returned (.bool true) ∧ ∃ n, w' = w.drewN n := by
  have hx0 : 0 ≤ x := by omega
  have d1 : decide (x < 0) = false := by simp; omega
  have d2 : decide (n < x) = false := by simp; omega
  have d3 : (x == 0) = false := by simp; omega
  have hn1 : inr (n - 1) = true := by rw [inr_iff] at hn ⊢; omega
  have cA := fun w => monad21 n hn w
  have cB := fun w => monad21 (n - 1) hn1 w
  have cC := fun w => mul64 n (factN (n - 1)) hn (inr_factN _) w
  have cP := fun w => dyad21 x n hx hn w
  have hm := choose_mirror (x := x) (n := n) hx0 hx1
  have hi3 : inr (n - x) = true := by rw [inr_iff] at hn ⊢; omega
  have hi4 : inr (x - 1) = true := by rw [inr_iff] at hx ⊢; omega
  have cR := fun w => dyad21 (n - x) n hi3 hn w
  have cU := fun w => dyad21 (x - 1) (n - 1) hi4 hn1 w
  have cV := fun w => dyad21 x (n - 1) hx hn1 w
  have cS := fun w => add64 (chooseN (x - 1) (n - 1)) (chooseN x (n - 1)) (inr_chooseN _ _) (inr_chooseN _ _) w
  rw [hm.1, hm.2] at cR
  clear hm
  rw [q1] at cP cR
  rw [q2] at cU
  rw [q3] at cV
  rw [q4, q5] at cS
  clear q1 q2 q3 q4 q5
  generalize chooseN (x - 1) (n - 1) = U at cU cS
  generalize chooseN x (n - 1) = V at cV cS
  generalize chooseN x n = P at cP cR cS
  rw [f1] at cA
  rw [f2] at cB
  rw [f3] at cC
  rw [cut_no f3] at cC
  clear f1 f2 f3
  generalize factN (n - 1) = B at cB cC
  generalize factN n = A at cA
  rw [inr_iff] at hx hn hn1
  go_enter Try.func3, Try.ntmps3
  go_wp2_with (first | (go_at_call 6; refine (begun_any _).mono ?_; rintro e w' ⟨rfl, n, rfl⟩) | (go_at_call 7; (with_reducible refine (cA _).mono ?_); rintro e w' ⟨rfl, rfl⟩) | (go_at_call 7; (with_reducible refine (cB _).mono ?_); rintro e w' ⟨rfl, rfl⟩) | (go_at_call 8; (with_reducible refine (cC _).mono ?_); rintro e w' ⟨rfl, rfl⟩) | (go_at_call 9; (with_reducible refine (cP _).mono ?_); rintro e w' ⟨rfl, n, rfl⟩) | (go_at_call 9; (with_reducible refine (cR _).mono ?_); rintro e w' ⟨rfl, n, rfl⟩) | (go_at_call 9; (with_reducible refine (cU _).mono ?_); rintro e w' ⟨rfl, n, rfl⟩) | (go_at_call 9; (with_reducible refine (cV _).mono ?_); rintro e w' ⟨rfl, n, rfl⟩) | (go_at_call 10; (with_reducible refine (cS _).mono ?_); rintro e w' ⟨rfl, rfl⟩))
  go_ret
  exact ⟨rfl, _, rfl⟩

theorem chosen_in1_1 (x n : Int) (hx : inr x = true) (hn : inr n = true) (h1 : 1 ≤ n) (f1 : factE n = 14) (f2 : factE (n - 1) = 0) (f3 : inr (n * factN (n - 1)) = false) (hx1 : x ≤ n) (h : 1 ≤ x) (q1 : chooseE x n = 14) (q2 : chooseE (x - 1) (n - 1) = 14) (w : World) :
    Calls Try.prog 3 #[.int .i64 x, .int .i64 n] w fun e w' => e = .returned (.bool true) ∧ ∃ n, w' = w.drewN n := by
  have hx0 : 0 ≤ x := by omega
  have d1 : decide (x < 0) = false := by simp; omega
  have d2 : decide (n < x) = false := by simp; omega
  have d3 : (x == 0) = false := by simp; omega
  have hn1 : inr (n - 1) = true := by rw [inr_iff] at hn ⊢; omega
  have cA := fun w => monad21 n hn w
  have cB := fun w => monad21 (n - 1) hn1 w
  have cC := fun w => mul64 n (factN (n - 1)) hn (inr_factN _) w
  have cP := fun w => dyad21 x n hx hn w
  have hm := choose_mirror (x := x) (n := n) hx0 hx1
  have hi3 : inr (n - x) = true := by rw [inr_iff] at hn ⊢; omega
  have hi4 : inr (x - 1) = true := by rw [inr_iff] at hx ⊢; omega
  have cR := fun w => dyad21 (n - x) n hi3 hn w
  have cU := fun w => dyad21 (x - 1) (n - 1) hi4 hn1 w
  have cV := fun w => dyad21 x (n - 1) hx hn1 w
  have cS := fun w => add64 (chooseN (x - 1) (n - 1)) (chooseN x (n - 1)) (inr_chooseN _ _) (inr_chooseN _ _) w
  rw [hm.1, hm.2] at cR
  clear hm
  rw [q1] at cP cR
  rw [q2] at cU
  clear q1 q2
  generalize cut (chooseN (x - 1) (n - 1) + chooseN x (n - 1)) = S1 at cS
  generalize inr (chooseN (x - 1) (n - 1) + chooseN x (n - 1)) = S2 at cS
  generalize chooseE x (n - 1) = EV at cV
  generalize chooseN (x - 1) (n - 1) = U at cU cS
  generalize chooseN x (n - 1) = V at cV cS
  generalize chooseN x n = P at cP cR
  rw [f1] at cA
  rw [f2] at cB
  rw [f3] at cC
  rw [cut_no f3] at cC
  clear f1 f2 f3
  generalize factN (n - 1) = B at cB cC
  generalize factN n = A at cA
  rw [inr_iff] at hx hn hn1
  go_enter Try.func3, Try.ntmps3
  go_wp2_with (first | (go_at_call 6; refine (begun_any _).mono ?_; rintro e w' ⟨rfl, n, rfl⟩) | (go_at_call 7; (with_reducible refine (cA _).mono ?_); rintro e w' ⟨rfl, rfl⟩) | (go_at_call 7; (with_reducible refine (cB _).mono ?_); rintro e w' ⟨rfl, rfl⟩) | (go_at_call 8; (with_reducible refine (cC _).mono ?_); rintro e w' ⟨rfl, rfl⟩) | (go_at_call 9; (with_reducible refine (cP _).mono ?_); rintro e w' ⟨rfl, n, rfl⟩) | (go_at_call 9; (with_reducible refine (cR _).mono ?_); rintro e w' ⟨rfl, n, rfl⟩) | (go_at_call 9; (with_reducible refine (cU _).mono ?_); rintro e w' ⟨rfl, n, rfl⟩) | (go_at_call 9; (with_reducible refine (cV _).mono ?_); rintro e w' ⟨rfl, n, rfl⟩) | (go_at_call 10; (with_reducible refine (cS _).mono ?_); rintro e w' ⟨rfl, rfl⟩))
  go_ret
  exact ⟨rfl, _, rfl⟩

theorem chosen_in1_2 (x n : Int) (hx : inr x = true) (hn : inr n = true) (h1 : 1 ≤ n) (f1 : factE n = 14) (f2 : factE (n - 1) = 0) (f3 : inr (n * factN (n - 1)) = false) (hx1 : x ≤ n) (h : 1 ≤ x) (q1 : chooseE x n = 14) (q2 : chooseE (x - 1) (n - 1) = 0) (q3 : chooseE x (n - 1) = 14) (w : World) :
    Calls Try.prog 3 #[.int .i64 x, .int .i64 n] w fun e w' => e = .returned (.bool true) ∧ ∃ n, w' = w.drewN n := by
  have hx0 : 0 ≤ x := by omega
  have d1 : decide (x < 0) = false := by simp; omega
  have d2 : decide (n < x) = false := by simp; omega
  have d3 : (x == 0) = false := by simp; omega
  have hn1 : inr (n - 1) = true := by rw [inr_iff] at hn ⊢; omega
  have cA := fun w => monad21 n hn w
  have cB := fun w => monad21 (n - 1) hn1 w
  have cC := fun w => mul64 n (factN (n - 1)) hn (inr_factN _) w
  have cP := fun w => dyad21 x n hx hn w
  have hm := choose_mirror (x := x) (n := n) hx0 hx1
  have hi3 : inr (n - x) = true := by rw [inr_iff] at hn ⊢; omega
  have hi4 : inr (x - 1) = true := by rw [inr_iff] at hx ⊢; omega
  have cR := fun w => dyad21 (n - x) n hi3 hn w
  have cU := fun w => dyad21 (x - 1) (n - 1) hi4 hn1 w
  have cV := fun w => dyad21 x (n - 1) hx hn1 w
  have cS := fun w => add64 (chooseN (x - 1) (n - 1)) (chooseN x (n - 1)) (inr_chooseN _ _) (inr_chooseN _ _) w
  rw [hm.1, hm.2] at cR
  clear hm
  rw [q1] at cP cR
  rw [q2] at cU
  rw [q3] at cV
  clear q1 q2 q3
  generalize cut (chooseN (x - 1) (n - 1) + chooseN x (n - 1)) = S1 at cS
  generalize inr (chooseN (x - 1) (n - 1) + chooseN x (n - 1)) = S2 at cS
  generalize chooseN (x - 1) (n - 1) = U at cU cS
  generalize chooseN x (n - 1) = V at cV cS
  generalize chooseN x n = P at cP cR
  rw [f1] at cA
  rw [f2] at cB
  rw [f3] at cC
  rw [cut_no f3] at cC
  clear f1 f2 f3
  generalize factN (n - 1) = B at cB cC
  generalize factN n = A at cA
  rw [inr_iff] at hx hn hn1
  go_enter Try.func3, Try.ntmps3
  go_wp2_with (first | (go_at_call 6; refine (begun_any _).mono ?_; rintro e w' ⟨rfl, n, rfl⟩) | (go_at_call 7; (with_reducible refine (cA _).mono ?_); rintro e w' ⟨rfl, rfl⟩) | (go_at_call 7; (with_reducible refine (cB _).mono ?_); rintro e w' ⟨rfl, rfl⟩) | (go_at_call 8; (with_reducible refine (cC _).mono ?_); rintro e w' ⟨rfl, rfl⟩) | (go_at_call 9; (with_reducible refine (cP _).mono ?_); rintro e w' ⟨rfl, n, rfl⟩) | (go_at_call 9; (with_reducible refine (cR _).mono ?_); rintro e w' ⟨rfl, n, rfl⟩) | (go_at_call 9; (with_reducible refine (cU _).mono ?_); rintro e w' ⟨rfl, n, rfl⟩) | (go_at_call 9; (with_reducible refine (cV _).mono ?_); rintro e w' ⟨rfl, n, rfl⟩) | (go_at_call 10; (with_reducible refine (cS _).mono ?_); rintro e w' ⟨rfl, rfl⟩))
  go_ret
  exact ⟨rfl, _, rfl⟩

theorem chosen_in1_3 (x n : Int) (hx : inr x = true) (hn : inr n = true) (h1 : 1 ≤ n) (f1 : factE n = 14) (f2 : factE (n - 1) = 0) (f3 : inr (n * factN (n - 1)) = false) (hx1 : x ≤ n) (h : 1 ≤ x) (q1 : chooseE x n = 14) (q2 : chooseE (x - 1) (n - 1) = 0) (q3 : chooseE x (n - 1) = 0) (q4 : inr (chooseN (x - 1) (n - 1) + chooseN x (n - 1)) = false) (w : World) :
    Calls Try.prog 3 #[.int .i64 x, .int .i64 n] w fun e w' => e = .returned (.bool true) ∧ ∃ n, w' = w.drewN n := by
  have hx0 : 0 ≤ x := by omega
  have d1 : decide (x < 0) = false := by simp; omega
  have d2 : decide (n < x) = false := by simp; omega
  have d3 : (x == 0) = false := by simp; omega
  have hn1 : inr (n - 1) = true := by rw [inr_iff] at hn ⊢; omega
  have cA := fun w => monad21 n hn w
  have cB := fun w => monad21 (n - 1) hn1 w
  have cC := fun w => mul64 n (factN (n - 1)) hn (inr_factN _) w
  have cP := fun w => dyad21 x n hx hn w
  have hm := choose_mirror (x := x) (n := n) hx0 hx1
  have hi3 : inr (n - x) = true := by rw [inr_iff] at hn ⊢; omega
  have hi4 : inr (x - 1) = true := by rw [inr_iff] at hx ⊢; omega
  have cR := fun w => dyad21 (n - x) n hi3 hn w
  have cU := fun w => dyad21 (x - 1) (n - 1) hi4 hn1 w
  have cV := fun w => dyad21 x (n - 1) hx hn1 w
  have cS := fun w => add64 (chooseN (x - 1) (n - 1)) (chooseN x (n - 1)) (inr_chooseN _ _) (inr_chooseN _ _) w
  rw [hm.1, hm.2] at cR
  clear hm
  rw [q1] at cP cR
  rw [q2] at cU
  rw [q3] at cV
  rw [q4, cut_no q4] at cS
  clear q1 q2 q3 q4
  generalize chooseN (x - 1) (n - 1) = U at cU cS
  generalize chooseN x (n - 1) = V at cV cS
  generalize chooseN x n = P at cP cR
  rw [f1] at cA
  rw [f2] at cB
  rw [f3] at cC
  rw [cut_no f3] at cC
  clear f1 f2 f3
  generalize factN (n - 1) = B at cB cC
  generalize factN n = A at cA
  rw [inr_iff] at hx hn hn1
  go_enter Try.func3, Try.ntmps3
  go_wp2_with (first | (go_at_call 6; refine (begun_any _).mono ?_; rintro e w' ⟨rfl, n, rfl⟩) | (go_at_call 7; (with_reducible refine (cA _).mono ?_); rintro e w' ⟨rfl, rfl⟩) | (go_at_call 7; (with_reducible refine (cB _).mono ?_); rintro e w' ⟨rfl, rfl⟩) | (go_at_call 8; (with_reducible refine (cC _).mono ?_); rintro e w' ⟨rfl, rfl⟩) | (go_at_call 9; (with_reducible refine (cP _).mono ?_); rintro e w' ⟨rfl, n, rfl⟩) | (go_at_call 9; (with_reducible refine (cR _).mono ?_); rintro e w' ⟨rfl, n, rfl⟩) | (go_at_call 9; (with_reducible refine (cU _).mono ?_); rintro e w' ⟨rfl, n, rfl⟩) | (go_at_call 9; (with_reducible refine (cV _).mono ?_); rintro e w' ⟨rfl, n, rfl⟩) | (go_at_call 10; (with_reducible refine (cS _).mono ?_); rintro e w' ⟨rfl, rfl⟩))
  go_ret
  exact ⟨rfl, _, rfl⟩

theorem chosen_out2 (x n : Int) (hx : inr x = true) (hn : inr n = true) (h1 : 1 ≤ n) (f1 : factE n = 14) (f2 : factE (n - 1) = 14) (h : x < 0 ∨ n < x) (w : World) :
    Calls Try.prog 3 #[.int .i64 x, .int .i64 n] w fun e w' => e = .returned (.bool true) ∧ ∃ n, w' = w.drewN n := by
  have hn1 : inr (n - 1) = true := by rw [inr_iff] at hn ⊢; omega
  have cA := fun w => monad21 n hn w
  have cB := fun w => monad21 (n - 1) hn1 w
  have cC := fun w => mul64 n (factN (n - 1)) hn (inr_factN _) w
  have cP := fun w => dyad21 x n hx hn w
  obtain ⟨p1, p2⟩ := choose_out (x := x) (n := n) (by omega) h
  rw [p1, p2] at cP
  clear p1 p2
  rw [f1] at cA
  rw [f2] at cB
  clear f1 f2
  generalize cut (n * factN (n - 1)) = C1 at cC
  generalize inr (n * factN (n - 1)) = C2 at cC
  generalize factN (n - 1) = B at cB cC
  generalize factN n = A at cA
  rw [inr_iff] at hx hn hn1
  by_cases hs : x < 0
  · have d1 : decide (x < 0) = true := by simpa using hs
    go_enter Try.func3, Try.ntmps3
    go_wp2_with (first | (go_at_call 6; refine (begun_any _).mono ?_; rintro e w' ⟨rfl, n, rfl⟩) | (go_at_call 7; (with_reducible refine (cA _).mono ?_); rintro e w' ⟨rfl, rfl⟩) | (go_at_call 7; (with_reducible refine (cB _).mono ?_); rintro e w' ⟨rfl, rfl⟩) | (go_at_call 8; (with_reducible refine (cC _).mono ?_); rintro e w' ⟨rfl, rfl⟩) | (go_at_call 9; (with_reducible refine (cP _).mono ?_); rintro e w' ⟨rfl, n, rfl⟩))
    go_ret
    exact ⟨rfl, _, rfl⟩
  · have d1 : decide (x < 0) = false := by simpa using hs
    have d2 : decide (n < x) = true := by simp; omega
    go_enter Try.func3, Try.ntmps3
    go_wp2_with (first | (go_at_call 6; refine (begun_any _).mono ?_; rintro e w' ⟨rfl, n, rfl⟩) | (go_at_call 7; (with_reducible refine (cA _).mono ?_); rintro e w' ⟨rfl, rfl⟩) | (go_at_call 7; (with_reducible refine (cB _).mono ?_); rintro e w' ⟨rfl, rfl⟩) | (go_at_call 8; (with_reducible refine (cC _).mono ?_); rintro e w' ⟨rfl, rfl⟩) | (go_at_call 9; (with_reducible refine (cP _).mono ?_); rintro e w' ⟨rfl, n, rfl⟩))
    go_ret
    exact ⟨rfl, _, rfl⟩

theorem chosen_none2 (x n : Int) (hx : inr x = true) (hn : inr n = true) (h1 : 1 ≤ n) (f1 : factE n = 14) (f2 : factE (n - 1) = 14) (h : x = 0) (w : World) :
    Calls Try.prog 3 #[.int .i64 x, .int .i64 n] w fun e w' => e = .returned (.bool true) ∧ ∃ n, w' = w.drewN n := by
  have hx0 : 0 ≤ x := by omega
  have hx1 : x ≤ n := by omega
  have d1 : decide (x < 0) = false := by simp; omega
  have d2 : decide (n < x) = false := by simp; omega
  have d3 : (x == 0) = true := by simp; omega
  have hn1 : inr (n - 1) = true := by rw [inr_iff] at hn ⊢; omega
  have cA := fun w => monad21 n hn w
  have cB := fun w => monad21 (n - 1) hn1 w
  have cC := fun w => mul64 n (factN (n - 1)) hn (inr_factN _) w
  have cP := fun w => dyad21 x n hx hn w
  have hm := choose_mirror (x := x) (n := n) hx0 hx1
  have hi3 : inr (n - x) = true := by rw [inr_iff] at hn ⊢; omega
  have hi4 : inr (x - 1) = true := by rw [inr_iff] at hx ⊢; omega
  have cR := fun w => dyad21 (n - x) n hi3 hn w
  have cU := fun w => dyad21 (x - 1) (n - 1) hi4 hn1 w
  have cV := fun w => dyad21 x (n - 1) hx hn1 w
  have cS := fun w => add64 (chooseN (x - 1) (n - 1)) (chooseN x (n - 1)) (inr_chooseN _ _) (inr_chooseN _ _) w
  rw [hm.1, hm.2] at cR
  clear hm
  obtain ⟨p1, p2⟩ := choose_none (n := n) (by omega)
  rw [h, p1, p2] at cP
  rw [h, p1, p2] at cR
  rw [← h] at cP
  rw [← h] at cR
  clear p1 p2 h
  rw [f1] at cA
  rw [f2] at cB
  clear f1 f2
  generalize cut (n * factN (n - 1)) = C1 at cC
  generalize inr (n * factN (n - 1)) = C2 at cC
  generalize factN (n - 1) = B at cB cC
  generalize factN n = A at cA
  rw [inr_iff] at hx hn hn1
  go_enter Try.func3, Try.ntmps3
  go_wp2_with (first | (go_at_call 6; refine (begun_any _).mono ?_; rintro e w' ⟨rfl, n, rfl⟩) | (go_at_call 7; (with_reducible refine (cA _).mono ?_); rintro e w' ⟨rfl, rfl⟩) | (go_at_call 7; (with_reducible refine (cB _).mono ?_); rintro e w' ⟨rfl, rfl⟩) | (go_at_call 8; (with_reducible refine (cC _).mono ?_); rintro e w' ⟨rfl, rfl⟩) | (go_at_call 9; (with_reducible refine (cP _).mono ?_); rintro e w' ⟨rfl, n, rfl⟩) | (go_at_call 9; (with_reducible refine (cR _).mono ?_); rintro e w' ⟨rfl, n, rfl⟩) | (go_at_call 9; (with_reducible refine (cU _).mono ?_); rintro e w' ⟨rfl, n, rfl⟩) | (go_at_call 9; (with_reducible refine (cV _).mono ?_); rintro e w' ⟨rfl, n, rfl⟩) | (go_at_call 10; (with_reducible refine (cS _).mono ?_); rintro e w' ⟨rfl, rfl⟩))
  go_ret
  exact ⟨rfl, _, rfl⟩

theorem chosen_in2_0 (x n : Int) (hx : inr x = true) (hn : inr n = true) (h1 : 1 ≤ n) (f1 : factE n = 14) (f2 : factE (n - 1) = 14) (hx1 : x ≤ n) (h : 1 ≤ x) (q1 : chooseE x n = 0) (q2 : chooseE (x - 1) (n - 1) = 0) (q3 : chooseE x (n - 1) = 0) (q4 : inr (chooseN (x - 1) (n - 1) + chooseN x (n - 1)) = true) (q5 : cut (chooseN (x - 1) (n - 1) + chooseN x (n - 1)) = chooseN x n) (w : World) :
    Calls Try.prog 3 #[.int .i64 x, .int .i64 n] w fun e w' => e = .returned (.bool true) ∧ ∃ n, w' = w.drewN n := by
  have hx0 : 0 ≤ x := by omega
  have d1 : decide (x < 0) = false := by simp; omega
  have d2 : decide (n < x) = false := by simp; omega
  have d3 : (x == 0) = false := by simp; omega
  have hn1 : inr (n - 1) = true := by rw [inr_iff] at hn ⊢; omega
  have cA := fun w => monad21 n hn w
  have cB := fun w => monad21 (n - 1) hn1 w
  have cC := fun w => mul64 n (factN (n - 1)) hn (inr_factN _) w
  have cP := fun w => dyad21 x n hx hn w
  have hm := choose_mirror (x := x) (n := n) hx0 hx1
  have hi3 : inr (n - x) = true := by rw [inr_iff] at hn ⊢; omega
  have hi4 : inr (x - 1) = true := by rw [inr_iff] at hx ⊢; omega
  have cR := fun w => dyad21 (n - x) n hi3 hn w
  have cU := fun w => dyad21 (x - 1) (n - 1) hi4 hn1 w
  have cV := fun w => dyad21 x (n - 1) hx hn1 w
  have cS := fun w => add64 (chooseN (x - 1) (n - 1)) (chooseN x (n - 1)) (inr_chooseN _ _) (inr_chooseN _ _) w
  rw [hm.1, hm.2] at cR
  clear hm
  rw [q1] at cP cR
  rw [q2] at cU
  rw [q3] at cV
  rw [q4, q5] at cS
  clear q1 q2 q3 q4 q5
  generalize chooseN (x - 1) (n - 1) = U at cU cS
  generalize chooseN x (n - 1) = V at cV cS
  generalize chooseN x n = P at cP cR cS
  rw [f1] at cA
  rw [f2] at cB
  clear f1 f2
  generalize cut (n * factN (n - 1)) = C1 at cC
  generalize inr (n * factN (n - 1)) = C2 at cC
  generalize factN (n - 1) = B at cB cC
  generalize factN n = A at cA
  rw [inr_iff] at hx hn hn1
  go_enter Try.func3, Try.ntmps3
  go_wp2_with (first | (go_at_call 6; refine (begun_any _).mono ?_; rintro e w' ⟨rfl, n, rfl⟩) | (go_at_call 7; (with_reducible refine (cA _).mono ?_); rintro e w' ⟨rfl, rfl⟩) | (go_at_call 7; (with_reducible refine (cB _).mono ?_); rintro e w' ⟨rfl, rfl⟩) | (go_at_call 8; (with_reducible refine (cC _).mono ?_); rintro e w' ⟨rfl, rfl⟩) | (go_at_call 9; (with_reducible refine (cP _).mono ?_); rintro e w' ⟨rfl, n, rfl⟩) | (go_at_call 9; (with_reducible refine (cR _).mono ?_); rintro e w' ⟨rfl, n, rfl⟩) | (go_at_call 9; (with_reducible refine (cU _).mono ?_); rintro e w' ⟨rfl, n, rfl⟩) | (go_at_call 9; (with_reducible refine (cV _).mono ?_); rintro e w' ⟨rfl, n, rfl⟩) | (go_at_call 10; (with_reducible refine (cS _).mono ?_); rintro e w' ⟨rfl, rfl⟩))
  go_ret
  exact ⟨rfl, _, rfl⟩

theorem chosen_in2_1 (x n : Int) (hx : inr x = true) (hn : inr n = true) (h1 : 1 ≤ n) (f1 : factE n = 14) (f2 : factE (n - 1) = 14) (hx1 : x ≤ n) (h : 1 ≤ x) (q1 : chooseE x n = 14) (q2 : chooseE (x - 1) (n - 1) = 14) (w : World) :
    Calls Try.prog 3 #[.int .i64 x, .int .i64 n] w fun e w' => e = .returned (.bool true) ∧ ∃ n, w' = w.drewN n := by
  have hx0 : 0 ≤ x := by omega
  have d1 : decide (x < 0) = false := by simp; omega
  have d2 : decide (n < x) = false := by simp; omega
  have d3 : (x == 0) = false := by simp; omega
  have hn1 : inr (n - 1) = true := by rw [inr_iff] at hn ⊢; omega
  have cA := fun w => monad21 n hn w
  have cB := fun w => monad21 (n - 1) hn1 w
  have cC := fun w => mul64 n (factN (n - 1)) hn (inr_factN _) w
  have cP := fun w => dyad21 x n hx hn w
  have hm := choose_mirror (x := x) (n := n) hx0 hx1
  have hi3 : inr (n - x) = true := by rw [inr_iff] at hn ⊢; omega
  have hi4 : inr (x - 1) = true := by rw [inr_iff] at hx ⊢; omega
  have cR := fun w => dyad21 (n - x) n hi3 hn w
  have cU := fun w => dyad21 (x - 1) (n - 1) hi4 hn1 w
  have cV := fun w => dyad21 x (n - 1) hx hn1 w
  have cS := fun w => add64 (chooseN (x - 1) (n - 1)) (chooseN x (n - 1)) (inr_chooseN _ _) (inr_chooseN _ _) w
  rw [hm.1, hm.2] at cR
  clear hm
  rw [q1] at cP cR
  rw [q2] at cU
  clear q1 q2
  generalize cut (chooseN (x - 1) (n - 1) + chooseN x (n - 1)) = S1 at cS
  generalize inr (chooseN (x - 1) (n - 1) + chooseN x (n - 1)) = S2 at cS
  generalize chooseE x (n - 1) = EV at cV
  generalize chooseN (x - 1) (n - 1) = U at cU cS
  generalize chooseN x (n - 1) = V at cV cS
  generalize chooseN x n = P at cP cR
  rw [f1] at cA
  rw [f2] at cB
  clear f1 f2
  generalize cut (n * factN (n - 1)) = C1 at cC
  generalize inr (n * factN (n - 1)) = C2 at cC
  generalize factN (n - 1) = B at cB cC
  generalize factN n = A at cA
  rw [inr_iff] at hx hn hn1
  go_enter Try.func3, Try.ntmps3
  go_wp2_with (first | (go_at_call 6; refine (begun_any _).mono ?_; rintro e w' ⟨rfl, n, rfl⟩) | (go_at_call 7; (with_reducible refine (cA _).mono ?_); rintro e w' ⟨rfl, rfl⟩) | (go_at_call 7; (with_reducible refine (cB _).mono ?_); rintro e w' ⟨rfl, rfl⟩) | (go_at_call 8; (with_reducible refine (cC _).mono ?_); rintro e w' ⟨rfl, rfl⟩) | (go_at_call 9; (with_reducible refine (cP _).mono ?_); rintro e w' ⟨rfl, n, rfl⟩) | (go_at_call 9; (with_reducible refine (cR _).mono ?_); rintro e w' ⟨rfl, n, rfl⟩) | (go_at_call 9; (with_reducible refine (cU _).mono ?_); rintro e w' ⟨rfl, n, rfl⟩) | (go_at_call 9; (with_reducible refine (cV _).mono ?_); rintro e w' ⟨rfl, n, rfl⟩) | (go_at_call 10; (with_reducible refine (cS _).mono ?_); rintro e w' ⟨rfl, rfl⟩))
  go_ret
  exact ⟨rfl, _, rfl⟩

theorem chosen_in2_2 (x n : Int) (hx : inr x = true) (hn : inr n = true) (h1 : 1 ≤ n) (f1 : factE n = 14) (f2 : factE (n - 1) = 14) (hx1 : x ≤ n) (h : 1 ≤ x) (q1 : chooseE x n = 14) (q2 : chooseE (x - 1) (n - 1) = 0) (q3 : chooseE x (n - 1) = 14) (w : World) :
    Calls Try.prog 3 #[.int .i64 x, .int .i64 n] w fun e w' => e = .returned (.bool true) ∧ ∃ n, w' = w.drewN n := by
  have hx0 : 0 ≤ x := by omega
  have d1 : decide (x < 0) = false := by simp; omega
  have d2 : decide (n < x) = false := by simp; omega
  have d3 : (x == 0) = false := by simp; omega
  have hn1 : inr (n - 1) = true := by rw [inr_iff] at hn ⊢; omega
  have cA := fun w => monad21 n hn w
  have cB := fun w => monad21 (n - 1) hn1 w
  have cC := fun w => mul64 n (factN (n - 1)) hn (inr_factN _) w
  have cP := fun w => dyad21 x n hx hn w
  have hm := choose_mirror (x := x) (n := n) hx0 hx1
  have hi3 : inr (n - x) = true := by rw [inr_iff] at hn ⊢; omega
  have hi4 : inr (x - 1) = true := by rw [inr_iff] at hx ⊢; omega
  have cR := fun w => dyad21 (n - x) n hi3 hn w
  have cU := fun w => dyad21 (x - 1) (n - 1) hi4 hn1 w
  have cV := fun w => dyad21 x (n - 1) hx hn1 w
  have cS := fun w => add64 (chooseN (x - 1) (n - 1)) (chooseN x (n - 1)) (inr_chooseN _ _) (inr_chooseN _ _) w
  rw [hm.1, hm.2] at cR
  clear hm
  rw [q1] at cP cR
  rw [q2] at cU
  rw [q3] at cV
  clear q1 q2 q3
  generalize cut (chooseN (x - 1) (n - 1) + chooseN x (n - 1)) = S1 at cS
  generalize inr (chooseN (x - 1) (n - 1) + chooseN x (n - 1)) = S2 at cS
  generalize chooseN (x - 1) (n - 1) = U at cU cS
  generalize chooseN x (n - 1) = V at cV cS
  generalize chooseN x n = P at cP cR
  rw [f1] at cA
  rw [f2] at cB
  clear f1 f2
  generalize cut (n * factN (n - 1)) = C1 at cC
  generalize inr (n * factN (n - 1)) = C2 at cC
  generalize factN (n - 1) = B at cB cC
  generalize factN n = A at cA
  rw [inr_iff] at hx hn hn1
  go_enter Try.func3, Try.ntmps3
  go_wp2_with (first | (go_at_call 6; refine (begun_any _).mono ?_; rintro e w' ⟨rfl, n, rfl⟩) | (go_at_call 7; (with_reducible refine (cA _).mono ?_); rintro e w' ⟨rfl, rfl⟩) | (go_at_call 7; (with_reducible refine (cB _).mono ?_); rintro e w' ⟨rfl, rfl⟩) | (go_at_call 8; (with_reducible refine (cC _).mono ?_); rintro e w' ⟨rfl, rfl⟩) | (go_at_call 9; (with_reducible refine (cP _).mono ?_); rintro e w' ⟨rfl, n, rfl⟩) | (go_at_call 9; (with_reducible refine (cR _).mono ?_); rintro e w' ⟨rfl, n, rfl⟩) | (go_at_call 9; (with_reducible refine (cU _).mono ?_); rintro e w' ⟨rfl, n, rfl⟩) | (go_at_call 9; (with_reducible refine (cV _).mono ?_); rintro e w' ⟨rfl, n, rfl⟩) | (go_at_call 10; (with_reducible refine (cS _).mono ?_); rintro e w' ⟨rfl, rfl⟩))
  go_ret
  exact ⟨rfl, _, rfl⟩

theorem chosen_in2_3 (x n : Int) (hx : inr x = true) (hn : inr n = true) (h1 : 1 ≤ n) (f1 : factE n = 14) (f2 : factE (n - 1) = 14) (hx1 : x ≤ n) (h : 1 ≤ x) (q1 : chooseE x n = 14) (q2 : chooseE (x - 1) (n - 1) = 0) (q3 : chooseE x (n - 1) = 0) (q4 : inr (chooseN (x - 1) (n - 1) + chooseN x (n - 1)) = false) (w : World) :
    Calls Try.prog 3 #[.int .i64 x, .int .i64 n] w fun e w' => e = .returned (.bool true) ∧ ∃ n, w' = w.drewN n := by
  have hx0 : 0 ≤ x := by omega
  have d1 : decide (x < 0) = false := by simp; omega
  have d2 : decide (n < x) = false := by simp; omega
  have d3 : (x == 0) = false := by simp; omega
  have hn1 : inr (n - 1) = true := by rw [inr_iff] at hn ⊢; omega
  have cA := fun w => monad21 n hn w
  have cB := fun w => monad21 (n - 1) hn1 w
  have cC := fun w => mul64 n (factN (n - 1)) hn (inr_factN _) w
  have cP := fun w => dyad21 x n hx hn w
  have hm := choose_mirror (x := x) (n := n) hx0 hx1
  have hi3 : inr (n - x) = true := by rw [inr_iff] at hn ⊢; omega
  have hi4 : inr (x - 1) = true := by rw [inr_iff] at hx ⊢; omega
  have cR := fun w => dyad21 (n - x) n hi3 hn w
  have cU := fun w => dyad21 (x - 1) (n - 1) hi4 hn1 w
  have cV := fun w => dyad21 x (n - 1) hx hn1 w
  have cS := fun w => add64 (chooseN (x - 1) (n - 1)) (chooseN x (n - 1)) (inr_chooseN _ _) (inr_chooseN _ _) w
  rw [hm.1, hm.2] at cR
  clear hm
  rw [q1] at cP cR
  rw [q2] at cU
  rw [q3] at cV
  rw [q4, cut_no q4] at cS
  clear q1 q2 q3 q4
  generalize chooseN (x - 1) (n - 1) = U at cU cS
  generalize chooseN x (n - 1) = V at cV cS
  generalize chooseN x n = P at cP cR
  rw [f1] at cA
  rw [f2] at cB
  clear f1 f2
  generalize cut (n * factN (n - 1)) = C1 at cC
  generalize inr (n * factN (n - 1)) = C2 at cC
  generalize factN (n - 1) = B at cB cC
  generalize factN n = A at cA
  rw [inr_iff] at hx hn hn1
  go_enter Try.func3, Try.ntmps3
  go_wp2_with (first | (go_at_call 6; refine (begun_any _).mono ?_; rintro e w' ⟨rfl, n, rfl⟩) | (go_at_call 7; (with_reducible refine (cA _).mono ?_); rintro e w' ⟨rfl, rfl⟩) | (go_at_call 7; (with_reducible refine (cB _).mono ?_); rintro e w' ⟨rfl, rfl⟩) | (go_at_call 8; (with_reducible refine (cC _).mono ?_); rintro e w' ⟨rfl, rfl⟩) | (go_at_call 9; (with_reducible refine (cP _).mono ?_); rintro e w' ⟨rfl, n, rfl⟩) | (go_at_call 9; (with_reducible refine (cR _).mono ?_); rintro e w' ⟨rfl, n, rfl⟩) | (go_at_call 9; (with_reducible refine (cU _).mono ?_); rintro e w' ⟨rfl, n, rfl⟩) | (go_at_call 9; (with_reducible refine (cV _).mono ?_); rintro e w' ⟨rfl, n, rfl⟩) | (go_at_call 10; (with_reducible refine (cS _).mono ?_); rintro e w' ⟨rfl, rfl⟩))
  go_ret
  exact ⟨rfl, _, rfl⟩

theorem chosen_walk (x n : Int) (hx : inr x = true) (hn : inr n = true) (w : World) :
    Calls Try.prog 3 #[.int .i64 x, .int .i64 n] w fun e w' => e = .returned (.bool true) ∧ ∃ n, w' = w.drewN n := by
  by_cases h0 : n < 1
  · exact chosen_few x n h0 w
  have h1 : 1 ≤ n := by omega
  rcases fact_case n h1 with ⟨f1, f2, f3, f4⟩ | ⟨f1, f2, f3⟩ | ⟨f1, f2⟩
  · by_cases ho : x < 0 ∨ n < x
    · exact chosen_out0 x n hx hn h1 f1 f2 f3 f4 ho w
    · by_cases hz : x = 0
      · exact chosen_none0 x n hx hn h1 f1 f2 f3 f4 hz w
      · rcases choose_case (x := x) (n := n) (by omega) (by omega) with ⟨q1, q2, q3, q4, q5⟩ | ⟨q1, q2⟩ | ⟨q1, q2, q3⟩ | ⟨q1, q2, q3, q4⟩
        · exact chosen_in0_0 x n hx hn h1 f1 f2 f3 f4 (by omega) (by omega) q1 q2 q3 q4 q5 w
        · exact chosen_in0_1 x n hx hn h1 f1 f2 f3 f4 (by omega) (by omega) q1 q2 w
        · exact chosen_in0_2 x n hx hn h1 f1 f2 f3 f4 (by omega) (by omega) q1 q2 q3 w
        · exact chosen_in0_3 x n hx hn h1 f1 f2 f3 f4 (by omega) (by omega) q1 q2 q3 q4 w
  · by_cases ho : x < 0 ∨ n < x
    · exact chosen_out1 x n hx hn h1 f1 f2 f3 ho w
    · by_cases hz : x = 0
      · exact chosen_none1 x n hx hn h1 f1 f2 f3 hz w
      · rcases choose_case (x := x) (n := n) (by omega) (by omega) with ⟨q1, q2, q3, q4, q5⟩ | ⟨q1, q2⟩ | ⟨q1, q2, q3⟩ | ⟨q1, q2, q3, q4⟩
        · exact chosen_in1_0 x n hx hn h1 f1 f2 f3 (by omega) (by omega) q1 q2 q3 q4 q5 w
        · exact chosen_in1_1 x n hx hn h1 f1 f2 f3 (by omega) (by omega) q1 q2 w
        · exact chosen_in1_2 x n hx hn h1 f1 f2 f3 (by omega) (by omega) q1 q2 q3 w
        · exact chosen_in1_3 x n hx hn h1 f1 f2 f3 (by omega) (by omega) q1 q2 q3 q4 w
  · by_cases ho : x < 0 ∨ n < x
    · exact chosen_out2 x n hx hn h1 f1 f2 ho w
    · by_cases hz : x = 0
      · exact chosen_none2 x n hx hn h1 f1 f2 hz w
      · rcases choose_case (x := x) (n := n) (by omega) (by omega) with ⟨q1, q2, q3, q4, q5⟩ | ⟨q1, q2⟩ | ⟨q1, q2, q3⟩ | ⟨q1, q2, q3, q4⟩
        · exact chosen_in2_0 x n hx hn h1 f1 f2 (by omega) (by omega) q1 q2 q3 q4 q5 w
        · exact chosen_in2_1 x n hx hn h1 f1 f2 (by omega) (by omega) q1 q2 w
        · exact chosen_in2_2 x n hx hn h1 f1 f2 (by omega) (by omega) q1 q2 q3 w
        · exact chosen_in2_3 x n hx hn h1 f1 f2 (by omega) (by omega) q1 q2 q3 q4 w
end Go.Proofs.Ytaajliecbchklab
