
/- Contracts of package atom: which verbs there are, the functions that are chosen, how many places lie below. -/

import Derived.Test.YthncgocjegalhaaC4

import Derived.Test.YthncgocjegalhaaNAny

namespace Go.Proofs.Ythncgocjegalhaa

open Go.RowKit

set_option linter.unusedVariables false

/-- Is it an error of the row, whatever the numbers are? -/
def lck (e : Int) : Bool := e == 1 || e == 16
theorem lck_no {e : Int} (h1 : e ≠ 1) (h2 : e ≠ 16) : lck e = false := by unfold lck; simp [h1, h2]
theorem lck_ne {e : Int} (h : lck e = true) : e ≠ 0 := by rintro rfl; exact absurd h (by decide)

theorem lacks_any (e : Int) (w : World) : Calls Try.prog 50 #[.int .i64 e] w fun x w' => x = .returned (.bool (lck e)) ∧ w' = w := by
  by_cases c1 : e = 1
  · subst c1
    go_enter Try.func50, Try.ntmps50
    go_wp2
    go_ret
    exact ⟨rfl, rfl⟩
  have b1 : (e == 1) = false := by simp [c1]
  by_cases c2 : e = 16
  · subst c2
    go_enter Try.func50, Try.ntmps50
    go_wp2
    go_ret
    exact ⟨rfl, rfl⟩
  have b2 : (e == 16) = false := by simp [c2]
  have hl := lck_no c1 c2
  rw [hl]
  go_enter Try.func50, Try.ntmps50
  go_wp2
  go_ret
  exact ⟨rfl, rfl⟩

/-- The closure that monadOf hands back, at the block that keeps its op. -/
def mFn (g : Nat) : Value := .func (.func 51) #[] #[.pointer (some ⟨g, 0, none⟩)]
def dFn (g : Nat) : Value := .func (.func 53) #[] #[.pointer (some ⟨g, 0, none⟩)]

theorem monadOf_no (op : Int) (w : World) (h : lck (Nm.mE op 0) = true) : Calls Try.prog 41 #[.int .i64 op] w fun e w' => e = .returned (.tuple #[.nilFunc, .int .i64 (Nm.mE op 0)]) ∧ Below w.heap.size w w' := by
  have hc := fun W => Nm.monad_any op 0 rfl W
  have hk := fun W => lacks_any (Nm.mE op 0) W
  rw [h] at hk
  generalize Nm.mE op 0 = E at *
  generalize Nm.mN op 0 = N at *
  go_enter Try.func41, Try.ntmps41
  go_wp2_with (first | (go_at_call 49; refine (hc _).mono ?_; rintro e w1 ⟨rfl, n, rfl⟩) | (go_at_call 50; refine (hk _).mono ?_; rintro e w2 ⟨rfl, rfl⟩))
  go_ret2
  exact ⟨rfl, below_drewN (box_below w _) _⟩

theorem monadOf_ok (op : Int) (w : World) (h : lck (Nm.mE op 0) = false) : Calls Try.prog 41 #[.int .i64 op] w fun e w' => e = .returned (.tuple #[mFn w.heap.size, .int .i64 0]) ∧ w'.cell? ⟨w.heap.size, 0, none⟩ = some (.int .i64 op) ∧ Below w.heap.size w w' := by
  have hc := fun W => Nm.monad_any op 0 rfl W
  have hk := fun W => lacks_any (Nm.mE op 0) W
  rw [h] at hk
  generalize Nm.mE op 0 = E at *
  generalize Nm.mN op 0 = N at *
  go_enter Try.func41, Try.ntmps41
  go_wp2_with (first | (go_at_call 49; refine (hc _).mono ?_; rintro e w1 ⟨rfl, n, rfl⟩) | (go_at_call 50; refine (hk _).mono ?_; rintro e w2 ⟨rfl, rfl⟩))
  go_ret2
  refine ⟨rfl, ?_, below_drewN (box_below w _) _⟩
  simp

theorem dyadOf_no (op : Int) (w : World) (h : lck (Nm.dE op 0 0) = true) : Calls Try.prog 42 #[.int .i64 op] w fun e w' => e = .returned (.tuple #[.nilFunc, .int .i64 (Nm.dE op 0 0)]) ∧ Below w.heap.size w w' := by
  have hc := fun W => Nm.dyad_any op 0 0 rfl rfl W
  have hk := fun W => lacks_any (Nm.dE op 0 0) W
  rw [h] at hk
  generalize Nm.dE op 0 0 = E at *
  generalize Nm.dN op 0 0 = N at *
  go_enter Try.func42, Try.ntmps42
  go_wp2_with (first | (go_at_call 52; refine (hc _).mono ?_; rintro e w1 ⟨rfl, n, rfl⟩) | (go_at_call 50; refine (hk _).mono ?_; rintro e w2 ⟨rfl, rfl⟩))
  go_ret2
  exact ⟨rfl, below_drewN (box_below w _) _⟩

theorem dyadOf_ok (op : Int) (w : World) (h : lck (Nm.dE op 0 0) = false) : Calls Try.prog 42 #[.int .i64 op] w fun e w' => e = .returned (.tuple #[dFn w.heap.size, .int .i64 0]) ∧ w'.cell? ⟨w.heap.size, 0, none⟩ = some (.int .i64 op) ∧ Below w.heap.size w w' := by
  have hc := fun W => Nm.dyad_any op 0 0 rfl rfl W
  have hk := fun W => lacks_any (Nm.dE op 0 0) W
  rw [h] at hk
  generalize Nm.dE op 0 0 = E at *
  generalize Nm.dN op 0 0 = N at *
  go_enter Try.func42, Try.ntmps42
  go_wp2_with (first | (go_at_call 52; refine (hc _).mono ?_; rintro e w1 ⟨rfl, n, rfl⟩) | (go_at_call 50; refine (hk _).mono ?_; rintro e w2 ⟨rfl, rfl⟩))
  go_ret2
  refine ⟨rfl, ?_, below_drewN (box_below w _) _⟩
  simp

theorem mFn_any (g : Nat) (op y : Int) (w : World) (hg : w.cell? ⟨g, 0, none⟩ = some (.int .i64 op)) (hy : Nm.inr y = true) :
    Calls Try.prog 51 #[.int .i64 y, .pointer (some ⟨g, 0, none⟩)] w fun e w' => e = .returned (.tuple #[.int .i64 (Nm.mN op y), .int .i64 (Nm.mE op y)]) ∧ ∃ n, w' = w.drewN n := by
  have hc := fun W => Nm.monad_any op y hy W
  generalize Nm.mE op y = E at *
  generalize Nm.mN op y = N at *
  go_enter Try.func51, Try.ntmps51
  go_wp2_with (go_at_call 49; refine (hc _).mono ?_; rintro e w1 ⟨rfl, n, rfl⟩)
  go_ret2
  exact ⟨rfl, _, rfl⟩
theorem dFn_any (g : Nat) (op x y : Int) (w : World) (hg : w.cell? ⟨g, 0, none⟩ = some (.int .i64 op)) (hx : Nm.inr x = true) (hy : Nm.inr y = true) :
    Calls Try.prog 53 #[.int .i64 x, .int .i64 y, .pointer (some ⟨g, 0, none⟩)] w fun e w' => e = .returned (.tuple #[.int .i64 (Nm.dN op x y), .int .i64 (Nm.dE op x y)]) ∧ ∃ n, w' = w.drewN n := by
  have hc := fun W => Nm.dyad_any op x y hx hy W
  generalize Nm.dE op x y = E at *
  generalize Nm.dN op x y = N at *
  go_enter Try.func53, Try.ntmps53
  go_wp2_with (go_at_call 52; refine (hc _).mono ?_; rintro e w1 ⟨rfl, n, rfl⟩)
  go_ret2
  exact ⟨rfl, _, rfl⟩

/-- What Has tells. -/
def hasB (op v : Int) : Bool := if v = 1 then !lck (Nm.mE op 0) else if v = 2 then !lck (Nm.dE op 0 0) else false
theorem hasT_any (op v : Int) (w : World) : Calls Try.prog 29 #[.int .i64 op, .int .i64 v] w fun e w' => e = .returned (.bool (hasB op v)) ∧ Below w.heap.size w w' := by
  by_cases c1 : v = 1
  · subst c1
    rw [show hasB op 1 = !lck (Nm.mE op 0) from rfl]
    cases hk : lck (Nm.mE op 0)
    · have hc := fun W => monadOf_ok op W hk
      go_enter Try.func29, Try.ntmps29
      go_wp2_with (go_at_call 41; refine (hc _).mono ?_; rintro e w1 ⟨rfl, hz, hb⟩)
      go_ret
      exact ⟨rfl, hb⟩
    · have hc := fun W => monadOf_no op W hk
      have hne : (Nm.mE op 0 == 0) = false := by simpa using lck_ne hk
      clear hk
      generalize Nm.mE op 0 = E at *
      go_enter Try.func29, Try.ntmps29
      go_wp2_with (go_at_call 41; refine (hc _).mono ?_; rintro e w1 ⟨rfl, hb⟩)
      go_ret
      exact ⟨rfl, hb⟩
  have b1 : (v == 1) = false := by simp [c1]
  by_cases c2 : v = 2
  · subst c2
    rw [show hasB op 2 = !lck (Nm.dE op 0 0) from rfl]
    cases hk : lck (Nm.dE op 0 0)
    · have hc := fun W => dyadOf_ok op W hk
      go_enter Try.func29, Try.ntmps29
      go_wp2_with (go_at_call 42; refine (hc _).mono ?_; rintro e w1 ⟨rfl, hz, hb⟩)
      go_ret
      exact ⟨rfl, hb⟩
    · have hc := fun W => dyadOf_no op W hk
      have hne : (Nm.dE op 0 0 == 0) = false := by simpa using lck_ne hk
      clear hk
      generalize Nm.dE op 0 0 = E at *
      go_enter Try.func29, Try.ntmps29
      go_wp2_with (go_at_call 42; refine (hc _).mono ?_; rintro e w1 ⟨rfl, hb⟩)
      go_ret
      exact ⟨rfl, hb⟩
  have b2 : (v == 2) = false := by simp [c2]
  rw [show hasB op v = false by unfold hasB; rw [if_neg c1, if_neg c2]]
  go_enter Try.func29, Try.ntmps29
  go_wp2
  go_ret
  exact ⟨rfl, Below.refl _ _⟩

theorem below_any (lo so : Option Addr) (ln lc sn sc : Nat) (L : List Int) (w : World) (h : Rd w lo ln L) (hs : Sl lo ln lc) (hsn : sn ≤ ln) :
    Calls Try.prog 44 #[.slice lo ln lc, .slice so sn sc] w fun e w' => e = .returned (.int .i64 (sizeF (L.drop sn))) ∧ w' = w := by
  have hle := hs.le
  have hmx := hs.max
  have hroom := h.room
  generalize hpo : (if lc = sn then lo else Option.map (fun x => x.add sn) lo) = po
  obtain ⟨r1, r2⟩ := h.sub hs hpo hsn (Nat.le_refl _)
  have e : (L.drop sn).take (ln - sn) = L.drop sn := List.take_of_length_le (by rw [List.length_drop, h.len]; omega)
  rw [e] at r1
  have hz := size_any po (ln - sn) (lc - sn) (L.drop sn) w r1
  generalize sizeF (L.drop sn) = Z at *
  generalize mayF (L.drop sn) = M at *
  clear r1 r2 e h hs
  go_enter Try.func44, Try.ntmps44
  go_wp2_with (go_at_call 39; refine hz.mono ?_; rintro e w1 ⟨rfl, rfl⟩)
  go_ret
  exact ⟨rfl, rfl⟩
end Go.Proofs.Ythncgocjegalhaa
