/- Plain facts for the law NumChosen: a factorial is the number times the one before; Pascal's rule; the same ways by what is left out. -/
import Derived.Test.YtaajliecbchklaaMath3
namespace Go.Proofs.Ytaajliecbchklaa
open Go.RowKit
set_option linter.unusedVariables false

theorem fact_case (n : Int) (h : 1 ≤ n) : (factE n = 0 ∧ factE (n - 1) = 0 ∧ inr (n * factN (n - 1)) = true ∧ cut (n * factN (n - 1)) = factN n) ∨
    (factE n = 14 ∧ factE (n - 1) = 0 ∧ inr (n * factN (n - 1)) = false) ∨ (factE n = 14 ∧ factE (n - 1) = 14) := by
  have e1 : factN n = cut (fact n.toNat) := by unfold factN; rw [if_neg (by omega)]
  have e2 : factE n = ovr (fact n.toNat) := by unfold factE; rw [if_neg (by omega)]
  have e3 : factN (n - 1) = cut (fact (n - 1).toNat) := by unfold factN; rw [if_neg (by omega)]
  have e4 : factE (n - 1) = ovr (fact (n - 1).toNat) := by unfold factE; rw [if_neg (by omega)]
  have hm : n * ((fact (n - 1).toNat : Nat) : Int) = ((fact n.toNat : Nat) : Int) := by
    have e : n.toNat = (n - 1).toNat + 1 := by omega
    rw [e]
    show _ = (((((n - 1).toNat + 1) * fact (n - 1).toNat) : Nat) : Int)
    rw [Int.natCast_mul]
    congr 1
    omega
  rw [e1, e2, e3, e4]
  by_cases c1 : n ≤ 20
  · have s1 := fact_small (n := n.toNat) (by omega)
    have s2 := fact_small (n := (n - 1).toNat) (by omega)
    rw [cut_yes s2, hm]
    exact Or.inl ⟨ovr_yes s1, ovr_yes s2, s1, rfl⟩
  · have g1 := fact_great (n := n.toNat) (by omega)
    by_cases c2 : n ≤ 21
    · have s2 := fact_small (n := (n - 1).toNat) (by omega)
      rw [cut_yes s2, hm]
      exact Or.inr (Or.inl ⟨ovr_no g1, ovr_yes s2, g1⟩)
    · have g2 := fact_great (n := (n - 1).toNat) (by omega)
      exact Or.inr (Or.inr ⟨ovr_no g1, ovr_no g2⟩)

theorem chooseN_pos {x y : Int} (h0 : 0 ≤ x) (h1 : 0 ≤ y) : chooseN x y = cut (binom y.toNat x.toNat) := by
  by_cases c : y < x
  · unfold chooseN; rw [if_pos (by omega), binom_over (by omega)]; rfl
  · unfold chooseN; rw [if_neg (by omega)]
theorem chooseE_pos {x y : Int} (h0 : 0 ≤ x) (h1 : 0 ≤ y) : chooseE x y = ovr (binom y.toNat x.toNat) := by
  by_cases c : y < x
  · unfold chooseE; rw [if_neg (by omega), if_pos (by omega), binom_over (by omega)]; rfl
  · unfold chooseE; rw [if_neg (by omega), if_neg (by omega)]
theorem choose_mirror {x n : Int} (h0 : 0 ≤ x) (h : x ≤ n) : chooseN (n - x) n = chooseN x n ∧ chooseE (n - x) n = chooseE x n := by
  rw [chooseN_pos (by omega) (by omega), chooseN_pos h0 (by omega), chooseE_pos (by omega) (by omega), chooseE_pos h0 (by omega)]
  have e := binom_sym (n := n.toNat) (k := x.toNat) (by omega)
  rw [e, show (n - x).toNat = n.toNat - x.toNat by omega]
  exact ⟨rfl, rfl⟩
theorem choose_out {x n : Int} (hn : 0 ≤ n) (h : x < 0 ∨ n < x) : chooseN x n = 0 ∧ chooseE x n = 0 := by
  unfold chooseN chooseE
  rw [if_pos (by omega), if_neg (by omega), if_pos (by omega)]
  exact ⟨rfl, rfl⟩
theorem choose_none {n : Int} (hn : 0 ≤ n) : chooseN 0 n = 1 ∧ chooseE 0 n = 0 := by
  rw [chooseN_pos (by omega) hn, chooseE_pos (by omega) hn, show (0 : Int).toNat = 0 from rfl, binom_zero]
  exact ⟨rfl, rfl⟩
/-- Pascal's rule, with what is too great. -/
theorem choose_case {x n : Int} (h1 : 1 ≤ x) (h2 : x ≤ n) :
    (chooseE x n = 0 ∧ chooseE (x - 1) (n - 1) = 0 ∧ chooseE x (n - 1) = 0 ∧ inr (chooseN (x - 1) (n - 1) + chooseN x (n - 1)) = true ∧ cut (chooseN (x - 1) (n - 1) + chooseN x (n - 1)) = chooseN x n) ∨
    (chooseE x n = 14 ∧ chooseE (x - 1) (n - 1) = 14) ∨ (chooseE x n = 14 ∧ chooseE (x - 1) (n - 1) = 0 ∧ chooseE x (n - 1) = 14) ∨
    (chooseE x n = 14 ∧ chooseE (x - 1) (n - 1) = 0 ∧ chooseE x (n - 1) = 0 ∧ inr (chooseN (x - 1) (n - 1) + chooseN x (n - 1)) = false) := by
  rw [chooseN_pos (x := x) (y := n) (by omega) (by omega), chooseE_pos (x := x) (y := n) (by omega) (by omega), chooseN_pos (x := x - 1) (y := n - 1) (by omega) (by omega), chooseE_pos (x := x - 1) (y := n - 1) (by omega) (by omega),
    chooseN_pos (x := x) (y := n - 1) (by omega) (by omega), chooseE_pos (x := x) (y := n - 1) (by omega) (by omega)]
  have hp := binom_step (n - 1).toNat (x - 1).toNat
  rw [show (n - 1).toNat + 1 = n.toNat by omega, show (x - 1).toNat + 1 = x.toNat by omega] at hp
  rw [hp]
  generalize binom (n - 1).toNat (x - 1).toNat = a
  generalize binom (n - 1).toNat x.toNat = b
  rw [Int.natCast_add]
  cases ha : inr (a : Nat)
  · have hab : inr ((a : Int) + (b : Int)) = false := by rw [inr_no] at ha ⊢; omega
    exact Or.inr (Or.inl ⟨ovr_no hab, ovr_no ha⟩)
  · cases hb : inr (b : Nat)
    · have hab : inr ((a : Int) + (b : Int)) = false := by rw [inr_no] at hb ⊢; omega
      exact Or.inr (Or.inr (Or.inl ⟨ovr_no hab, ovr_yes ha, ovr_no hb⟩))
    · rw [cut_yes ha, cut_yes hb]
      cases hab : inr ((a : Int) + (b : Int))
      · exact Or.inr (Or.inr (Or.inr ⟨ovr_no hab, ovr_yes ha, ovr_yes hb, rfl⟩))
      · exact Or.inl ⟨ovr_yes hab, ovr_yes ha, ovr_yes hb, rfl, rfl⟩
end Go.Proofs.Ytaajliecbchklaa
