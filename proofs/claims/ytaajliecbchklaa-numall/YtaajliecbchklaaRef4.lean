/- Contracts of the document's own answer (abacusref1), continued: power, ways. -/
import Derived.Test.YtaajliecbchklaaRef3
namespace Go.Proofs.Ytaajliecbchklaa
open Go.RowKit
set_option linter.unusedVariables false

theorem sgd_pow (x : Int) (n : Nat) : sgd (decide (x < 0) && (n % 2 == 1)) (x.natAbs ^ n) = x ^ n := by
  have ha := Int.natAbs_pow x n
  rcases Int.lt_or_le x 0 with h | h
  · have e : x = -(x.natAbs : Int) := by omega
    have e1 : decide (x < 0) = true := by simpa using h
    have hp : x ^ n = (-1 : Int) ^ n * ((x.natAbs ^ n : Nat) : Int) := by
      rw [Int.natCast_pow, ← Int.mul_pow]
      congr 1
      omega
    rw [hp, minus_pow, e1]
    unfold sgd
    by_cases c : n % 2 = 0
    · rw [if_pos c]; simp [c]
    · have c1 : n % 2 = 1 := by omega
      rw [if_neg c]; simp [c1]
  · have e : x = (x.natAbs : Int) := by omega
    have e1 : decide (x < 0) = false := by simp; omega
    rw [e1]
    unfold sgd
    simp only [Bool.false_and, Bool.false_eq_true, if_false]
    rw [Int.natCast_pow, ← e]

theorem rPower (x y : Int) (hx : inr x = true) (hy : inr y = true) (w : World) :
    Calls Try.prog 63 #[.int .i64 x, .int .i64 y] w fun e w' => e = .returned (.tuple #[.int .i64 (powN x y), .int .i64 (powE x y)]) ∧ w' = w := by
  have sx := fun w => rSize x hx w
  have sy := fun w => rSize y hy w
  rw [inr_iff] at hx hy
  by_cases c1 : x = 1
  · subst c1
    rw [powN_one, powE_one]
    clear sx sy
    by_cases c3 : y < 0
    · have d3 : decide (y < 0) = true := by simpa using c3
      go_enter Try.func63, Try.ntmps63
      go_wp2
      go_ret2
      exact ⟨rfl, rfl⟩
    · have d3 : decide (y < 0) = false := by simpa using c3
      go_enter Try.func63, Try.ntmps63
      go_wp2
      go_ret2
      exact ⟨rfl, rfl⟩
  have b1 : (x == 1) = false := by simp [c1]
  have b1' : (x != 1) = true := by simp [c1]
  by_cases c2 : x = -1
  · subst c2
    clear sx b1 b1'
    by_cases c0 : y = 0
    · subst c0
      clear sy
      go_enter Try.func63, Try.ntmps63
      go_wp2
      go_ret2
      exact ⟨rfl, rfl⟩
    · rw [powN_minus, powE_minus]
      have d0 : (y == 0) = false := by simp [c0]
      have hv : Hid (1 - 2 * ((y.natAbs : Int) % 2) = 1 - 2 * tr (y % 2 != 0)) := by
        show _ = _
        by_cases c : y % 2 = 0
        · have e : tr (y % 2 != 0) = 0 := by simp [c, tr]
          rw [e]; omega
        · have e : tr (y % 2 != 0) = 1 := by simp [c, tr]
          rw [e]; omega
      by_cases c3 : y < 0
      · have d3 : decide (y < 0) = true := by simpa using c3
        go_enter Try.func63, Try.ntmps63
        go_wp2_with (go_at_call 55; refine (sy _).mono ?_; rintro e w' ⟨rfl, rfl⟩)
        go_ret2
        exact ⟨ret_two hv.out rfl, rfl⟩
      · have d3 : decide (y < 0) = false := by simpa using c3
        go_enter Try.func63, Try.ntmps63
        go_wp2_with (go_at_call 55; refine (sy _).mono ?_; rintro e w' ⟨rfl, rfl⟩)
        go_ret2
        exact ⟨ret_two hv.out rfl, rfl⟩
  have b2 : (x == -1) = false := by simp [c2]
  have b2' : (x != -1) = true := by simp [c2]
  clear sy
  by_cases c3 : y < 0
  · have e : powN x y = 0 := by unfold powN; rw [if_neg (by omega), if_neg c1, if_neg c2]
    have e2 : powE x y = 10 := by unfold powE; rw [if_neg (by omega), if_neg (by omega)]
    rw [e, e2]
    have d3 : decide (y < 0) = true := by simpa using c3
    go_enter Try.func63, Try.ntmps63
    go_wp2
    go_ret2
    exact ⟨rfl, rfl⟩
  have d3 : decide (y < 0) = false := by simpa using c3
  have eN : powN x y = cut (x ^ y.toNat) := by unfold powN; rw [if_pos (by omega)]
  have eE : powE x y = ovr (x ^ y.toNat) := by unfold powE; rw [if_pos (by omega)]
  rw [eN, eE]
  clear eN eE
  by_cases c0 : y = 0
  · subst c0
    rw [show x ^ (0 : Int).toNat = 1 from Int.pow_zero x]
    go_enter Try.func63, Try.ntmps63
    go_wp2
    go_ret2
    exact ⟨rfl, rfl⟩
  have d0 : (y == 0) = false := by simp [c0]
  by_cases c4 : x = 0
  · subst c4
    have e : (0 : Int) ^ y.toNat = 0 := by
      rw [show y.toNat = (y.toNat - 1) + 1 by omega, Int.pow_succ, Int.mul_zero]
    rw [e]
    clear e
    go_enter Try.func63, Try.ntmps63
    go_wp2
    go_ret2
    exact ⟨rfl, rfl⟩
  have b4 : (x == 0) = false := by simp [c4]
  have h2 : 2 ≤ x.natAbs := by omega
  have hax : x.natAbs < 18446744073709551616 := by omega
  clear c0 c1 c2 c4
  go_enter Try.func63, Try.ntmps63
  go_wp2
  go_loop [6, 7] (fun p i => ∃ k : Nat, k ≤ y.toNat ∧ i = .int .i64 (k : Nat) ∧ p = .int .u64 (x.natAbs ^ k : Nat) ∧ x.natAbs ^ k < 18446744073709551616) (fun _ i => y.toNat - (intOf i).toNat)
  case atStart => exact ⟨0, by omega, rfl, rfl, by rw [Nat.pow_zero]; omega⟩
  case round =>
    obtain ⟨k, hk, rfl, rfl, hp⟩ := hrel
    by_cases hlt : (k : Int) < y
    · have hm : Hid (x.natAbs ^ (k + 1) = x.natAbs ^ k * x.natAbs) := Nat.pow_succ _ _
      by_cases hi : x.natAbs ^ k * x.natAbs < 18446744073709551616
      · have cp := fun w => rProductYes (x.natAbs ^ k) x.natAbs hp hax hi w
        have hi' : Hid (x.natAbs ^ (k + 1) < 18446744073709551616) := by show _ < _; rw [hm.out]; exact hi
        clear hi
        generalize x.natAbs ^ k * x.natAbs = M at *
        go_wp2_with (first | (go_at_call 55; refine (sx _).mono ?_; rintro e w' ⟨rfl, rfl⟩) | (go_at_call 61; refine (cp _).mono ?_; rintro e w' ⟨rfl, rfl⟩))
        go_round
        case rel => exact ⟨k + 1, by omega, by go_num, by rw [hm.out], hi'.out⟩
        case measure => simp [intOf]; omega
      · have cp := fun w => rProductNo (x.natAbs ^ k) x.natAbs hp hax (by omega) w
        have ho : Hid (inr (x ^ y.toNat) = false) := by
          refine pow_over h2 (k := k + 1) ?_ (by omega)
          have ha := Int.natAbs_pow x (k + 1)
          rw [hm.out] at ha
          rw [inr_no]; omega
        clear hi
        go_wp2_with (first | (go_at_call 55; refine (sx _).mono ?_; rintro e w' ⟨rfl, rfl⟩) | (go_at_call 61; refine (cp _).mono ?_; rintro e w' ⟨rfl, rfl⟩))
        go_ret2
        exact ⟨ret_two (cut_no ho.out).symm (ovr_no ho.out).symm, rfl⟩
    · have e : k = y.toNat := by omega
      have hs := sgd_pow x k
      have hey : Hid (x ^ k = x ^ y.toNat) := by show _ = _; rw [e]
      have hodd : (y % 2 = 1) ↔ (k % 2 = 1) := by omega
      have fin : ∀ b, b = (decide (x < 0) && (k % 2 == 1)) → ∀ w, Calls Try.prog 54 #[.bool b, .int .u64 (x.natAbs ^ k : Nat)] w fun e w' => e = .returned (.tuple #[.int .i64 (cut (x ^ k)), .int .i64 (ovr (x ^ k))]) ∧ w' = w := by
        intro b hb w
        have := rSigned b (x.natAbs ^ k) hp w
        rw [hb, hs] at this
        rw [hb]
        exact this
      clear hs e
      rcases Int.lt_or_le x 0 with h | h
      · have e1 : decide (x < 0) = true := by simpa using h
        by_cases ho : y % 2 = 1
        · have t1 : (y % 2 == 1) = true := by simp [ho]
          have cs := fin true (by rw [e1]; simp [hodd.1 ho])
          clear fin hodd ho
          generalize x.natAbs ^ k = P at *
          go_wp2_with (go_at_call 54; refine (cs _).mono ?_; rintro e w' ⟨rfl, rfl⟩)
          go_ret2
          exact ⟨ret_two (by rw [hey.out]) (by rw [hey.out]), rfl⟩
        · have t1 : (y % 2 == 1) = false := by simp [ho]
          have cs := fin false (by rw [e1, Bool.true_and]; exact (beq_eq_false_iff_ne.2 (fun z => ho (hodd.2 z))).symm)
          clear fin hodd ho
          generalize x.natAbs ^ k = P at *
          go_wp2_with (go_at_call 54; refine (cs _).mono ?_; rintro e w' ⟨rfl, rfl⟩)
          go_ret2
          exact ⟨ret_two (by rw [hey.out]) (by rw [hey.out]), rfl⟩
      · have e1 : decide (x < 0) = false := by simp; omega
        have cs := fin false (by rw [e1]; rfl)
        clear fin hodd
        generalize x.natAbs ^ k = P at *
        go_wp2_with (go_at_call 54; refine (cs _).mono ?_; rintro e w' ⟨rfl, rfl⟩)
        go_ret2
        exact ⟨ret_two (by rw [hey.out]) (by rw [hey.out]), rfl⟩
end Go.Proofs.Ytaajliecbchklaa
