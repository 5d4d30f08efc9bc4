/- Contracts of the document's own answer (abacusref1), continued: divided, residue. -/
import Derived.Test.YtaajliecbchklaaRef2
namespace Go.Proofs.Ytaajliecbchklaa
open Go.RowKit
set_option linter.unusedVariables false

theorem tdiv_signs (a b : Nat) : (a : Int).tdiv (b : Int) = ((a / b : Nat) : Int) ∧ (-(a : Int)).tdiv (b : Int) = -((a / b : Nat) : Int) ∧ (a : Int).tdiv (-(b : Int)) = -((a / b : Nat) : Int) ∧ (-(a : Int)).tdiv (-(b : Int)) = ((a / b : Nat) : Int) := by
  have h : (a : Int).tdiv (b : Int) = ((a / b : Nat) : Int) := (Int.ofNat_tdiv a b).symm
  refine ⟨h, ?_, ?_, ?_⟩
  · rw [Int.neg_tdiv, h]
  · rw [Int.tdiv_neg, h]
  · rw [Int.neg_tdiv, Int.tdiv_neg, h]; omega
theorem tmod_size {x y : Int} : x.tmod y = 0 ↔ x.natAbs % y.natAbs = 0 := by
  constructor
  · intro h
    exact Nat.mod_eq_zero_of_dvd (Int.natAbs_dvd_natAbs.2 (Int.dvd_of_tmod_eq_zero h))
  · intro h
    exact Int.tmod_eq_zero_of_dvd (Int.natAbs_dvd_natAbs.1 (Nat.dvd_of_mod_eq_zero h))
theorem tdiv_size (x y : Int) : ((x < 0 ↔ y < 0) → x.tdiv y = ((x.natAbs / y.natAbs : Nat) : Int)) ∧ (¬ (x < 0 ↔ y < 0) → x.tdiv y = -((x.natAbs / y.natAbs : Nat) : Int)) := by
  obtain ⟨t1, t2, t3, t4⟩ := tdiv_signs x.natAbs y.natAbs
  rcases Int.lt_or_le x 0 with h1 | h1 <;> rcases Int.lt_or_le y 0 with h2 | h2
  · have ex : x = -(x.natAbs : Int) := by omega
    have ey : y = -(y.natAbs : Int) := by omega
    exact ⟨fun _ => by rw [← t4, ← ex, ← ey], fun h => absurd (by omega) h⟩
  · have ex : x = -(x.natAbs : Int) := by omega
    have ey : y = (y.natAbs : Int) := by omega
    exact ⟨fun h => absurd h (by omega), fun _ => by rw [← t2, ← ex, ← ey]⟩
  · have ex : x = (x.natAbs : Int) := by omega
    have ey : y = -(y.natAbs : Int) := by omega
    exact ⟨fun h => absurd h (by omega), fun _ => by rw [← t3, ← ex, ← ey]⟩
  · have ex : x = (x.natAbs : Int) := by omega
    have ey : y = (y.natAbs : Int) := by omega
    exact ⟨fun _ => by rw [← t1, ← ex, ← ey], fun h => absurd (by omega) h⟩
theorem fdiv_size_same {x y : Int} (hy : y ≠ 0) (h : x < 0 ↔ y < 0) : x.fdiv y = ((x.natAbs / y.natAbs : Nat) : Int) := by
  rw [fdiv_same (Or.inr h) hy, (tdiv_size x y).1 h]
theorem fdiv_size_whole {x y : Int} (hy : y ≠ 0) (h : ¬ (x < 0 ↔ y < 0)) (hr : x.natAbs % y.natAbs = 0) : x.fdiv y = -((x.natAbs / y.natAbs : Nat) : Int) := by
  rw [fdiv_same (Or.inl (tmod_size.2 hr)) hy, (tdiv_size x y).2 h]
theorem fdiv_size_rest {x y : Int} (hy : y ≠ 0) (h : ¬ (x < 0 ↔ y < 0)) (hr : x.natAbs % y.natAbs ≠ 0) : x.fdiv y = -(((x.natAbs / y.natAbs : Nat) : Int) + 1) := by
  rw [fdiv_less (fun z => hr (tmod_size.1 z)) h hy, (tdiv_size x y).2 h]; omega

/-- The sizes' quotient, where a size is not 0. -/
theorem size_quo {a b : Nat} (ha : a < 18446744073709551616) (hb : b ≠ 0) : IntKind.u64.wrap ((a : Int) / (b : Int)) = ((a / b : Nat) : Int) := by
  have := Nat.div_le_self a b
  rw [← Int.natCast_ediv, wrapNn _ (by omega)]

theorem rDivided (x y : Int) (hx : inr x = true) (hy : inr y = true) (w : World) :
    Calls Try.prog 58 #[.int .i64 x, .int .i64 y] w fun e w' => e = .returned (.tuple #[.int .i64 (divN x y), .int .i64 (divE x y)]) ∧ w' = w := by
  have sx := fun w => rSize x hx w
  have sy := fun w => rSize y hy w
  rw [inr_iff] at hx hy
  by_cases c0 : y = 0
  · subst c0
    have e : divN x 0 = 0 := rfl
    have e2 : divE x 0 = 10 := rfl
    rw [e, e2]
    go_enter Try.func58, Try.ntmps58
    go_wp2
    go_ret2
    exact ⟨rfl, rfl⟩
  have eN : divN x y = cut (x.fdiv y) := by unfold divN; rw [if_neg c0]
  have eE : divE x y = ovr (x.fdiv y) := by unfold divE; rw [if_neg c0]
  rw [eN, eE]
  clear eN eE
  have c1 : (y == 0) = false := by simp [c0]
  have fs := @fdiv_size_same x y c0
  have fw := @fdiv_size_whole x y c0
  have fr := @fdiv_size_rest x y c0
  have hq := size_quo (a := x.natAbs) (b := y.natAbs) (by omega) (by omega)
  have hbnd := Nat.div_le_self x.natAbs y.natAbs
  have hy1 : (1 : Int) ≤ (y.natAbs : Int) := by omega
  have hax : x.natAbs < 9223372036854775809 := by omega
  have hrem : ((x.natAbs : Int) % (y.natAbs : Int)) = ((x.natAbs % y.natAbs : Nat) : Int) := (Int.natCast_emod _ _).symm
  have hquo : ((x.natAbs : Int) / (y.natAbs : Int)) = ((x.natAbs / y.natAbs : Nat) : Int) := (Int.natCast_ediv _ _).symm
  generalize hA : x.natAbs = A at *
  generalize hB : y.natAbs = B at *
  generalize A / B = Q at *
  generalize A % B = R at *
  generalize x.fdiv y = F at *
  clear hA hB
  rcases Int.lt_or_le x 0 with h1 | h1 <;> rcases Int.lt_or_le y 0 with h2 | h2
  · have e1 : decide (x < 0) = true := by simpa using h1
    have e2 : decide (y < 0) = true := by simpa using h2
    have f := fs (by omega)
    have cs := fun w => rSigned false Q (by omega) w
    rw [show sgd false Q = F by rw [f]; rfl] at cs
    clear fs fw fr f
    go_enter Try.func58, Try.ntmps58
    go_wp2_with (first | (go_at_call 55; (with_reducible refine (sx _).mono ?_); rintro e w' ⟨rfl, rfl⟩) | (go_at_call 55; (with_reducible refine (sy _).mono ?_); rintro e w' ⟨rfl, rfl⟩) | (go_at_call 54; refine (cs _).mono ?_; rintro e w' ⟨rfl, rfl⟩))
    go_ret2
    exact ⟨rfl, rfl⟩
  · have e1 : decide (x < 0) = true := by simpa using h1
    have e2 : decide (y < 0) = false := by simp; omega
    by_cases hR : R = 0
    · have f := fw (by omega) hR
      have t1 : ((R : Int) != 0) = false := by simp [hR]
      by_cases hQ : Q = 0
      · have cs := fun w => rSigned false Q (by omega) w
        rw [show sgd false Q = F by rw [f, hQ]; rfl] at cs
        have t2 : decide (0 < Q) = false := by simp; omega
        clear fs fw fr f hR hQ
        go_enter Try.func58, Try.ntmps58
        go_wp2_with (first | (go_at_call 55; (with_reducible refine (sx _).mono ?_); rintro e w' ⟨rfl, rfl⟩) | (go_at_call 55; (with_reducible refine (sy _).mono ?_); rintro e w' ⟨rfl, rfl⟩) | (go_at_call 54; refine (cs _).mono ?_; rintro e w' ⟨rfl, rfl⟩))
        go_ret2
        exact ⟨rfl, rfl⟩
      · have cs := fun w => rSigned true Q (by omega) w
        rw [show sgd true Q = F by rw [f]; rfl] at cs
        have t2 : decide (0 < Q) = true := by simp; omega
        clear fs fw fr f hR
        go_enter Try.func58, Try.ntmps58
        go_wp2_with (first | (go_at_call 55; (with_reducible refine (sx _).mono ?_); rintro e w' ⟨rfl, rfl⟩) | (go_at_call 55; (with_reducible refine (sy _).mono ?_); rintro e w' ⟨rfl, rfl⟩) | (go_at_call 54; refine (cs _).mono ?_; rintro e w' ⟨rfl, rfl⟩))
        go_ret2
        exact ⟨rfl, rfl⟩
    · have f := fr (by omega) hR
      have t1 : ((R : Int) != 0) = true := by simp; omega
      have cs := fun w => rSigned true (Q + 1) (by omega) w
      rw [show sgd true (Q + 1) = F by rw [f]; rfl, show ((Q + 1 : Nat) : Int) = (Q : Int) + 1 by omega] at cs
      have t2 : decide ((0 : Int) < (Q : Int) + 1) = true := by simp only [decide_eq_true_eq]; omega
      clear fs fw fr f
      go_enter Try.func58, Try.ntmps58
      go_wp2_with (first | (go_at_call 55; (with_reducible refine (sx _).mono ?_); rintro e w' ⟨rfl, rfl⟩) | (go_at_call 55; (with_reducible refine (sy _).mono ?_); rintro e w' ⟨rfl, rfl⟩) | (go_at_call 54; refine (cs _).mono ?_; rintro e w' ⟨rfl, rfl⟩))
      go_ret2
      exact ⟨rfl, rfl⟩
  · have e1 : decide (x < 0) = false := by simp; omega
    have e2 : decide (y < 0) = true := by simpa using h2
    by_cases hR : R = 0
    · have f := fw (by omega) hR
      have t1 : ((R : Int) != 0) = false := by simp [hR]
      by_cases hQ : Q = 0
      · have cs := fun w => rSigned false Q (by omega) w
        rw [show sgd false Q = F by rw [f, hQ]; rfl] at cs
        have t2 : decide (0 < Q) = false := by simp; omega
        clear fs fw fr f hR hQ
        go_enter Try.func58, Try.ntmps58
        go_wp2_with (first | (go_at_call 55; (with_reducible refine (sx _).mono ?_); rintro e w' ⟨rfl, rfl⟩) | (go_at_call 55; (with_reducible refine (sy _).mono ?_); rintro e w' ⟨rfl, rfl⟩) | (go_at_call 54; refine (cs _).mono ?_; rintro e w' ⟨rfl, rfl⟩))
        go_ret2
        exact ⟨rfl, rfl⟩
      · have cs := fun w => rSigned true Q (by omega) w
        rw [show sgd true Q = F by rw [f]; rfl] at cs
        have t2 : decide (0 < Q) = true := by simp; omega
        clear fs fw fr f hR
        go_enter Try.func58, Try.ntmps58
        go_wp2_with (first | (go_at_call 55; (with_reducible refine (sx _).mono ?_); rintro e w' ⟨rfl, rfl⟩) | (go_at_call 55; (with_reducible refine (sy _).mono ?_); rintro e w' ⟨rfl, rfl⟩) | (go_at_call 54; refine (cs _).mono ?_; rintro e w' ⟨rfl, rfl⟩))
        go_ret2
        exact ⟨rfl, rfl⟩
    · have f := fr (by omega) hR
      have t1 : ((R : Int) != 0) = true := by simp; omega
      have cs := fun w => rSigned true (Q + 1) (by omega) w
      rw [show sgd true (Q + 1) = F by rw [f]; rfl, show ((Q + 1 : Nat) : Int) = (Q : Int) + 1 by omega] at cs
      have t2 : decide ((0 : Int) < (Q : Int) + 1) = true := by simp only [decide_eq_true_eq]; omega
      clear fs fw fr f
      go_enter Try.func58, Try.ntmps58
      go_wp2_with (first | (go_at_call 55; (with_reducible refine (sx _).mono ?_); rintro e w' ⟨rfl, rfl⟩) | (go_at_call 55; (with_reducible refine (sy _).mono ?_); rintro e w' ⟨rfl, rfl⟩) | (go_at_call 54; refine (cs _).mono ?_; rintro e w' ⟨rfl, rfl⟩))
      go_ret2
      exact ⟨rfl, rfl⟩
  · have e1 : decide (x < 0) = false := by simp; omega
    have e2 : decide (y < 0) = false := by simp; omega
    have f := fs (by omega)
    have cs := fun w => rSigned false Q (by omega) w
    rw [show sgd false Q = F by rw [f]; rfl] at cs
    clear fs fw fr f
    go_enter Try.func58, Try.ntmps58
    go_wp2_with (first | (go_at_call 55; (with_reducible refine (sx _).mono ?_); rintro e w' ⟨rfl, rfl⟩) | (go_at_call 55; (with_reducible refine (sy _).mono ?_); rintro e w' ⟨rfl, rfl⟩) | (go_at_call 54; refine (cs _).mono ?_; rintro e w' ⟨rfl, rfl⟩))
    go_ret2
    exact ⟨rfl, rfl⟩

theorem fmod_size {x y : Int} (hx : x ≠ 0) : y.fmod x = if (y.natAbs % x.natAbs ≠ 0 ∧ ¬ (x < 0 ↔ y < 0)) then (if x < 0 then -((x.natAbs : Int) - (y.natAbs % x.natAbs : Nat)) else (x.natAbs : Int) - (y.natAbs % x.natAbs : Nat)) else (if x < 0 then -((y.natAbs % x.natAbs : Nat) : Int) else ((y.natAbs % x.natAbs : Nat) : Int)) := by
  have h := Int.mul_fdiv_add_fmod y x
  have hdm : x.natAbs * (y.natAbs / x.natAbs) + y.natAbs % x.natAbs = y.natAbs := Nat.div_add_mod _ _
  have hc : ((x.natAbs * (y.natAbs / x.natAbs) : Nat) : Int) = (x.natAbs : Int) * ((y.natAbs / x.natAbs : Nat) : Int) := Int.natCast_mul _ _
  have key : ∀ (f : Int), y.fdiv x = f → y.fmod x = y - x * f := fun f hf => by rw [hf] at h; omega
  generalize hQ : y.natAbs / x.natAbs = Q at *
  generalize hR : y.natAbs % x.natAbs = R at *
  rcases Int.lt_or_le x 0 with h1 | h1
  · have ex : x * (Q : Int) = -((x.natAbs * Q : Nat) : Int) := by
      rw [hc]
      have : x = -(x.natAbs : Int) := by omega
      rw [this, Int.neg_mul]; simp
    rcases Int.lt_or_le y 0 with h2 | h2
    · have g := fdiv_size_same (x := y) (y := x) hx (by omega)
      rw [hQ] at g
      have f := key _ g
      rw [f, ex, if_neg (by omega), if_pos h1]; omega
    · by_cases hr : R = 0
      · have g := fdiv_size_whole (x := y) (y := x) hx (by omega) (by omega)
        rw [hQ] at g
        have f := key _ g
        rw [f, Int.mul_neg, ex, if_neg (by omega), if_pos h1]; omega
      · have g := fdiv_size_rest (x := y) (y := x) hx (by omega) (by omega)
        rw [hQ] at g
        have f := key _ g
        rw [f, Int.mul_neg, Int.mul_add, Int.mul_one, ex, if_pos (by omega), if_pos h1]; omega
  · have ex : x * (Q : Int) = ((x.natAbs * Q : Nat) : Int) := by
      rw [hc]
      have : x = (x.natAbs : Int) := by omega
      rw [← this]
    rcases Int.lt_or_le y 0 with h2 | h2
    · by_cases hr : R = 0
      · have g := fdiv_size_whole (x := y) (y := x) hx (by omega) (by omega)
        rw [hQ] at g
        have f := key _ g
        rw [f, Int.mul_neg, ex, if_neg (by omega), if_neg (by omega)]; omega
      · have g := fdiv_size_rest (x := y) (y := x) hx (by omega) (by omega)
        rw [hQ] at g
        have f := key _ g
        rw [f, Int.mul_neg, Int.mul_add, Int.mul_one, ex, if_pos (by omega), if_neg (by omega)]; omega
    · have g := fdiv_size_same (x := y) (y := x) hx (by omega)
      rw [hQ] at g
      have f := key _ g
      rw [f, ex, if_neg (by omega), if_neg (by omega)]; omega

theorem rResidue (x y : Int) (hx : inr x = true) (hy : inr y = true) (w : World) :
    Calls Try.prog 59 #[.int .i64 x, .int .i64 y] w fun e w' => e = .returned (.int .i64 (y.fmod x)) ∧ w' = w := by
  have sx := fun w => rSize x hx w
  have sy := fun w => rSize y hy w
  rw [inr_iff] at hx hy
  by_cases c0 : x = 0
  · subst c0
    rw [Int.fmod_zero]
    go_enter Try.func59, Try.ntmps59
    go_wp2
    go_ret
    exact ⟨rfl, rfl⟩
  have c1 : (x == 0) = false := by simp [c0]
  rw [fmod_size c0]
  have hrem : ((y.natAbs : Int) % (x.natAbs : Int)) = ((y.natAbs % x.natAbs : Nat) : Int) := (Int.natCast_emod _ _).symm
  have hlt := Nat.mod_lt y.natAbs (show 0 < x.natAbs by omega)
  have hax : x.natAbs < 9223372036854775809 := by omega
  have hx1 : (1 : Int) ≤ (x.natAbs : Int) := by omega
  generalize hB : x.natAbs = B at *
  generalize hA : y.natAbs = A at *
  generalize A % B = R at *
  rcases Int.lt_or_le x 0 with h1 | h1 <;> rcases Int.lt_or_le y 0 with h2 | h2
  · have e1 : decide (x < 0) = true := by simpa using h1
    have e2 : decide (y < 0) = true := by simpa using h2
    by_cases hR : R = 0
    · subst hR
      rw [if_neg (by omega), if_pos h1]
      clear hA hB
      go_enter Try.func59, Try.ntmps59
      go_wp2_with (first | (go_at_call 55; (with_reducible refine (sx _).mono ?_); rintro e w' ⟨rfl, rfl⟩) | (go_at_call 55; (with_reducible refine (sy _).mono ?_); rintro e w' ⟨rfl, rfl⟩))
      go_ret
      exact ⟨ret_int (by first | rfl | omega | (simp only [IntKind.wrap_u64, wrap64]; omega)), rfl⟩
    · have t1 : ((R : Int) != 0) = true := by simp; omega
      rw [if_neg (by omega), if_pos h1]
      clear hA hB
      go_enter Try.func59, Try.ntmps59
      go_wp2_with (first | (go_at_call 55; (with_reducible refine (sx _).mono ?_); rintro e w' ⟨rfl, rfl⟩) | (go_at_call 55; (with_reducible refine (sy _).mono ?_); rintro e w' ⟨rfl, rfl⟩))
      go_ret
      exact ⟨ret_int (by first | rfl | omega | (simp only [IntKind.wrap_u64, wrap64]; omega)), rfl⟩
  · have e1 : decide (x < 0) = true := by simpa using h1
    have e2 : decide (y < 0) = false := by simp; omega
    by_cases hR : R = 0
    · subst hR
      rw [if_neg (by omega), if_pos h1]
      clear hA hB
      go_enter Try.func59, Try.ntmps59
      go_wp2_with (first | (go_at_call 55; (with_reducible refine (sx _).mono ?_); rintro e w' ⟨rfl, rfl⟩) | (go_at_call 55; (with_reducible refine (sy _).mono ?_); rintro e w' ⟨rfl, rfl⟩))
      go_ret
      exact ⟨ret_int (by first | rfl | omega | (simp only [IntKind.wrap_u64, wrap64]; omega)), rfl⟩
    · have t1 : ((R : Int) != 0) = true := by simp; omega
      rw [if_pos (by omega), if_pos h1]
      clear hA hB
      go_enter Try.func59, Try.ntmps59
      go_wp2_with (first | (go_at_call 55; (with_reducible refine (sx _).mono ?_); rintro e w' ⟨rfl, rfl⟩) | (go_at_call 55; (with_reducible refine (sy _).mono ?_); rintro e w' ⟨rfl, rfl⟩))
      go_ret
      exact ⟨ret_int (by first | rfl | omega | (simp only [IntKind.wrap_u64, wrap64]; omega)), rfl⟩
  · have e1 : decide (x < 0) = false := by simp; omega
    have e2 : decide (y < 0) = true := by simpa using h2
    by_cases hR : R = 0
    · subst hR
      rw [if_neg (by omega), if_neg (by omega)]
      clear hA hB
      go_enter Try.func59, Try.ntmps59
      go_wp2_with (first | (go_at_call 55; (with_reducible refine (sx _).mono ?_); rintro e w' ⟨rfl, rfl⟩) | (go_at_call 55; (with_reducible refine (sy _).mono ?_); rintro e w' ⟨rfl, rfl⟩))
      go_ret
      exact ⟨ret_int (by first | rfl | omega | (simp only [IntKind.wrap_u64, wrap64]; omega)), rfl⟩
    · have t1 : ((R : Int) != 0) = true := by simp; omega
      rw [if_pos (by omega), if_neg (by omega)]
      clear hA hB
      go_enter Try.func59, Try.ntmps59
      go_wp2_with (first | (go_at_call 55; (with_reducible refine (sx _).mono ?_); rintro e w' ⟨rfl, rfl⟩) | (go_at_call 55; (with_reducible refine (sy _).mono ?_); rintro e w' ⟨rfl, rfl⟩))
      go_ret
      exact ⟨ret_int (by first | rfl | omega | (simp only [IntKind.wrap_u64, wrap64]; omega)), rfl⟩
  · have e1 : decide (x < 0) = false := by simp; omega
    have e2 : decide (y < 0) = false := by simp; omega
    by_cases hR : R = 0
    · subst hR
      rw [if_neg (by omega), if_neg (by omega)]
      clear hA hB
      go_enter Try.func59, Try.ntmps59
      go_wp2_with (first | (go_at_call 55; (with_reducible refine (sx _).mono ?_); rintro e w' ⟨rfl, rfl⟩) | (go_at_call 55; (with_reducible refine (sy _).mono ?_); rintro e w' ⟨rfl, rfl⟩))
      go_ret
      exact ⟨ret_int (by first | rfl | omega | (simp only [IntKind.wrap_u64, wrap64]; omega)), rfl⟩
    · have t1 : ((R : Int) != 0) = true := by simp; omega
      rw [if_neg (by omega), if_neg (by omega)]
      clear hA hB
      go_enter Try.func59, Try.ntmps59
      go_wp2_with (first | (go_at_call 55; (with_reducible refine (sx _).mono ?_); rintro e w' ⟨rfl, rfl⟩) | (go_at_call 55; (with_reducible refine (sy _).mono ?_); rintro e w' ⟨rfl, rfl⟩))
      go_ret
      exact ⟨ret_int (by first | rfl | omega | (simp only [IntKind.wrap_u64, wrap64]; omega)), rfl⟩
end Go.Proofs.Ytaajliecbchklaa
