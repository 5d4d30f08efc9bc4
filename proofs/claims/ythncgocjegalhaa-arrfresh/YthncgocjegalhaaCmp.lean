
/- Which of two lists, and of two arrays, is before the other: an order. -/

import Derived.Test.YthncgocjegalhaaBase

namespace Go.Proofs.Ythncgocjegalhaa

set_option linter.unusedVariables false

/-- Which of two numbers is before the other. -/
def cmpI (x y : Int) : Int := if x < y then -1 else if y < x then 1 else 0
/-- Which of two lists. -/
def cmpL : List Int → List Int → Int
  | [], [] => 0
  | [], _ :: _ => -1
  | _ :: _, [] => 1
  | x :: a, y :: b => if cmpI x y = 0 then cmpL a b else cmpI x y
/-- First by one, then by the other. -/
def lex (x y : Int) : Int := if x = 0 then y else x
/-- Which of two arrays. -/
def cmpA (s a t b : List Int) : Int := lex (cmpI s.length t.length) (lex (cmpL s t) (cmpL a b))

theorem cmpI_self (x : Int) : cmpI x x = 0 := by unfold cmpI; rw [if_neg (by omega), if_neg (by omega)]
theorem cmpI_lt {x y : Int} (h : x < y) : cmpI x y = -1 := if_pos h
theorem cmpI_gt {x y : Int} (h : y < x) : cmpI x y = 1 := by unfold cmpI; rw [if_neg (by omega), if_pos h]
theorem cmpI_zero {x y : Int} : cmpI x y = 0 ↔ x = y := by
  unfold cmpI; split
  · omega
  · split <;> omega
theorem cmpL_step {a b : List Int} {x : Int} : cmpL (x :: a) (x :: b) = cmpL a b := by simp [cmpL, cmpI_self]
theorem cmpL_zero : ∀ a b, cmpL a b = 0 ↔ a = b
  | [], [] => by simp [cmpL]
  | [], _ :: _ => by simp [cmpL]
  | _ :: _, [] => by simp [cmpL]
  | x :: a, y :: b => by
    unfold cmpL
    by_cases h : cmpI x y = 0
    · rw [if_pos h, cmpL_zero a b, cmpI_zero.1 h]; simp
    · rw [if_neg h]
      constructor
      · intro e; exact absurd e h
      · intro e; cases e; exact absurd (cmpI_self _) h

theorem cons_nth {a : List Int} {k : Nat} (h : k < a.length) : a.drop k = nth a k :: a.drop (k + 1) := by
  rw [nth_lt h, List.drop_eq_getElem_cons h]
/-- Where they are alike up to a place, what is behind it tells. -/
theorem cmpL_drop {a b : List Int} : ∀ k, k ≤ a.length → k ≤ b.length → (∀ j, j < k → nth a j = nth b j) → cmpL a b = cmpL (a.drop k) (b.drop k)
  | 0, _, _, _ => rfl
  | k + 1, h1, h2, h => by
    rw [cmpL_drop k (by omega) (by omega) (fun j hj => h j (by omega)), cons_nth (a := a) (k := k) (by omega), cons_nth (a := b) (k := k) (by omega), h k (by omega), cmpL_step]
theorem cmpL_part {a b : List Int} {k : Nat} (h1 : k < a.length) (h2 : k < b.length) (h : ∀ j, j < k → nth a j = nth b j) (hn : cmpI (nth a k) (nth b k) ≠ 0) : cmpL a b = cmpI (nth a k) (nth b k) := by
  rw [cmpL_drop k (by omega) (by omega) h, cons_nth h1, cons_nth h2]
  unfold cmpL; rw [if_neg hn]
theorem cmpL_long {a b : List Int} (h1 : b.length < a.length) (h : ∀ j, j < b.length → nth a j = nth b j) : cmpL a b = 1 := by
  rw [cmpL_drop b.length (by omega) (by omega) h, cons_nth h1, List.drop_length]; rfl
theorem cmpL_short {a b : List Int} (h1 : a.length < b.length) (h : ∀ j, j < a.length → nth a j = nth b j) : cmpL a b = -1 := by
  rw [cmpL_drop a.length (by omega) (by omega) h, cons_nth h1, List.drop_length]; rfl
theorem cmpL_same {a b : List Int} (h1 : a.length = b.length) (h : ∀ j, j < a.length → nth a j = nth b j) : cmpL a b = 0 :=
  (cmpL_zero a b).2 (ext_nth h1 h)
end Go.Proofs.Ythncgocjegalhaa
