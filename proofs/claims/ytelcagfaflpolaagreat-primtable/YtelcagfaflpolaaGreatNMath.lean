
/- Plain arithmetic for package num: what its rows tell, with no Go in sight: numbers of 64 bits, quotients rounded down, powers, factorials, ways to choose. -/

import Derived.WalkKit

namespace Go.Proofs.YtelcagfaflpolaaGreat.Nm

open Go.RowKit

set_option linter.unusedVariables false

/-- Is a number one of 64 bits with a sign? -/
def inr (n : Int) : Bool := decide (-9223372036854775808 ≤ n ∧ n ≤ 9223372036854775807)
theorem inr_iff {n : Int} : inr n = true ↔ (-9223372036854775808 ≤ n ∧ n ≤ 9223372036854775807) := by unfold inr; simp
theorem inr_no {n : Int} : inr n = false ↔ ¬ (-9223372036854775808 ≤ n ∧ n ≤ 9223372036854775807) := by unfold inr; simp
/-- A number, or 0 where it is none of 64 bits. -/
def cut (n : Int) : Int := if inr n = true then n else 0
/-- No error, or 'over' where it is none of 64 bits. -/
def ovr (n : Int) : Int := if inr n = true then 0 else 14
theorem cut_yes {n : Int} (h : inr n = true) : cut n = n := by unfold cut; rw [if_pos h]
theorem cut_no {n : Int} (h : inr n = false) : cut n = 0 := by unfold cut; rw [if_neg (by simp [h])]
theorem ovr_yes {n : Int} (h : inr n = true) : ovr n = 0 := by unfold ovr; rw [if_pos h]
theorem ovr_no {n : Int} (h : inr n = false) : ovr n = 14 := by unfold ovr; rw [if_neg (by simp [h])]
theorem inr_cut (n : Int) : inr (cut n) = true := by
  cases h : inr n
  · rw [cut_no h]; rfl
  · rw [cut_yes h, h]

/-! ### products -/

theorem mul_back (a b : Int) (h0 : a ≠ 0) : (a * b).tdiv a = b := by rw [Int.mul_comm]; exact Int.mul_tdiv_cancel b h0
theorem wrap_near (p : Int) : wrap64 p = p ∨ p - wrap64 p ≥ 18446744073709551616 ∨ wrap64 p - p ≥ 18446744073709551616 := by unfold wrap64; omega
theorem wrap_inr (p : Int) : -9223372036854775808 ≤ wrap64 p ∧ wrap64 p ≤ 9223372036854775807 := by unfold wrap64; omega
theorem wrap_id {p : Int} (h : -9223372036854775808 ≤ p ∧ p ≤ 9223372036854775807) : wrap64 p = p := by unfold wrap64; omega
/-- A quotient of numbers of 64 bits is one, but for the least by -1. -/
theorem tdiv_inr {q a : Int} (hq : -9223372036854775808 ≤ q ∧ q ≤ 9223372036854775807) (h1 : ¬ (q = -9223372036854775808 ∧ a = -1)) :
    -9223372036854775808 ≤ q.tdiv a ∧ q.tdiv a ≤ 9223372036854775807 := by
  have e : (q.tdiv a).natAbs = q.natAbs / a.natAbs := Int.natAbs_tdiv q a
  have l := Nat.div_le_self q.natAbs a.natAbs
  by_cases c1 : a = -1
  · subst c1
    have e2 : q.tdiv (-1) = -q := by rw [Int.tdiv_neg, Int.tdiv_one]
    rw [e2]
    omega
  · by_cases c2 : a = 1
    · subst c2; simp; omega
    · by_cases c3 : a = 0
      · subst c3; simp
      · have l2 : q.natAbs / a.natAbs ≤ q.natAbs / 2 := Nat.div_le_div_left (by omega) (by omega)
        omega
theorem mul_other (a b : Int) (ha : -9223372036854775808 ≤ a ∧ a ≤ 9223372036854775807) (h0 : a ≠ 0) (h1 : a ≠ -1)
    (hp : ¬ (-9223372036854775808 ≤ a * b ∧ a * b ≤ 9223372036854775807)) : (wrap64 ((wrap64 (a * b)).tdiv a) != b) = true := by
  have hr := wrap_inr (a * b)
  rw [wrap_id (tdiv_inr hr (by omega))]
  simp only [bne_iff_ne, ne_eq]
  intro e
  have hm := Int.mul_tdiv_add_tmod (wrap64 (a * b)) a
  rw [e] at hm
  have h1 := Int.tmod_lt_of_pos (wrap64 (a * b)) (b := a.natAbs) (by omega)
  have h2 := Int.lt_tmod_of_pos (wrap64 (a * b)) (b := a.natAbs) (by omega)
  have h3 : (wrap64 (a * b)).tmod a.natAbs = (wrap64 (a * b)).tmod a := by
    rcases Int.natAbs_eq a with h | h
    · rw [← h]
    · rw [h]; simp
  rw [h3] at h1 h2
  have hw := wrap_near (a * b)
  generalize (wrap64 (a * b)).tmod a = r at *
  generalize wrap64 (a * b) = q at *
  generalize a * b = p at *
  omega

/-! ### quotients rounded down, and what is left -/

theorem fdiv_same {x y : Int} (h : x.tmod y = 0 ∨ ((x < 0) ↔ (y < 0))) (hy : y ≠ 0) : x.fdiv y = x.tdiv y := by
  rw [Int.fdiv_eq_tdiv]
  rcases h with h | h
  · rw [if_pos (Int.dvd_of_tmod_eq_zero h)]; omega
  · split
    · omega
    · split
      · rw [if_pos (by omega)]; omega
      · rw [if_neg (by omega), Int.sign_eq_neg_one_of_neg (by omega)]; omega
theorem fdiv_less {x y : Int} (h : x.tmod y ≠ 0) (hs : ¬ ((x < 0) ↔ (y < 0))) (hy : y ≠ 0) : x.fdiv y = x.tdiv y - 1 := by
  rw [Int.fdiv_eq_tdiv, if_neg (fun d => h (Int.tmod_eq_zero_of_dvd d))]
  split
  · rw [if_neg (by omega)]
  · rw [if_pos (by omega), Int.sign_eq_one_of_pos (by omega)]
theorem tmod_sign {x y : Int} : (0 ≤ x → 0 ≤ x.tmod y) ∧ (x ≤ 0 → x.tmod y ≤ 0) :=
  ⟨fun h => Int.tmod_nonneg y h, fun h => by have := Int.tmod_nonneg y (a := -x) (by omega); rw [Int.neg_tmod] at this; omega⟩
theorem fmod_same {y x : Int} (h : y.tmod x = 0 ∨ ((y.tmod x < 0) ↔ (x < 0))) (hx : x ≠ 0) : y.fmod x = y.tmod x := by
  have s := tmod_sign (x := y) (y := x)
  rw [Int.fmod_eq_tmod]
  by_cases c : y.tmod x = 0
  · rw [if_pos (Int.dvd_of_tmod_eq_zero c)]; omega
  · rw [if_neg (fun d => c (Int.tmod_eq_zero_of_dvd d))]
    split
    · rw [if_pos (by omega)]; omega
    · rw [if_neg (by omega)]; omega
theorem fmod_more {y x : Int} (h : y.tmod x ≠ 0) (hs : ¬ ((y.tmod x < 0) ↔ (x < 0))) (hx : x ≠ 0) : y.fmod x = y.tmod x + x := by
  have s := tmod_sign (x := y) (y := x)
  rw [Int.fmod_eq_tmod, if_neg (fun d => h (Int.tmod_eq_zero_of_dvd d))]
  split
  · rw [if_neg (by omega)]
  · rw [if_pos (by omega)]; omega
theorem fmod_pos {y x : Int} (h : 0 < x) : 0 ≤ y.fmod x ∧ y.fmod x < x := ⟨Int.fmod_nonneg_of_pos y h, Int.fmod_lt_of_pos y h⟩
theorem fmod_neg {y x : Int} (h : x < 0) : y.fmod x ≤ 0 ∧ x < y.fmod x := by
  have e := Int.fmod_eq_emod (a := y) (b := x)
  have h1 := Int.emod_nonneg y (b := x) (by omega)
  have h2 := Int.emod_lt_of_neg y h
  by_cases c : x ∣ y
  · rw [if_pos (Or.inr c), Int.emod_eq_zero_of_dvd c] at e; omega
  · rw [if_neg (by omega)] at e
    have h3 : y % x ≠ 0 := fun z => c (Int.dvd_of_emod_eq_zero z)
    omega
theorem fdiv_inr {x y : Int} (hx : -9223372036854775808 ≤ x ∧ x ≤ 9223372036854775807) (hy : y ≠ 0) (h1 : ¬ (x = -9223372036854775808 ∧ y = -1)) :
    -9223372036854775808 ≤ x.fdiv y ∧ x.fdiv y ≤ 9223372036854775807 := by
  have t := tdiv_inr hx h1
  by_cases c : x.tmod y = 0 ∨ ((x < 0) ↔ (y < 0))
  · rw [fdiv_same c hy]; exact t
  · have c1 : x.tmod y ≠ 0 := fun z => c (Or.inl z)
    have c2 : ¬ ((x < 0) ↔ (y < 0)) := fun z => c (Or.inr z)
    rw [fdiv_less c1 c2 hy]
    refine ⟨?_, by omega⟩
    have e : (x.tdiv y).natAbs = x.natAbs / y.natAbs := Int.natAbs_tdiv x y
    have h2 : y.natAbs ≠ 1 := by
      intro h
      rcases Int.natAbs_eq y with h' | h' <;> rw [h] at h' <;> simp at h' <;> subst h' <;> simp at c1
    have l2 : x.natAbs / y.natAbs ≤ x.natAbs / 2 := Nat.div_le_div_left (by omega) (by omega)
    omega
end Go.Proofs.YtelcagfaflpolaaGreat.Nm
