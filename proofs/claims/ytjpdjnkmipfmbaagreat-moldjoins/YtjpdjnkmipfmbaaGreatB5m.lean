
/- Items one behind the other: the numbers, and the calls of items. -/

import Derived.Test.YtjpdjnkmipfmbaaGreatB1
import Derived.Test.YtjpdjnkmipfmbaaGreatA11


namespace Go.Proofs.YtjpdjnkmipfmbaaGreat

open Go.RowKit

set_option linter.unusedVariables false

theorem pz_foldl (l : List Int) : ∀ a : Int, l.foldl (fun p z => if z = 0 then p else p * z) a = a * pz l := by
  induction l with
  | nil => intro a; simp [pz]
  | cons z l ih =>
    intro a
    simp only [pz, List.foldl_cons]
    rw [ih, ih]
    split
    · simp
    · rw [Int.one_mul, Int.mul_assoc]
theorem pz_cons (z : Int) (l : List Int) : pz (z :: l) = (if z = 0 then 1 else z) * pz l := by
  conv => lhs; unfold pz; rw [List.foldl_cons, pz_foldl]
  simp
theorem mayF_tail {sh : List Int} (h : mayF sh = 0) : mayF (sh.drop 1) = 0 := by
  obtain ⟨h1, h2, h3⟩ := mayF_zero h
  cases sh with
  | nil => exact h
  | cons z l =>
    have hz : 0 ≤ z := h1 0 (by simp)
    have hl : ∀ k, k < l.length → 0 ≤ nth l k := fun k hk => by have := h1 (k + 1) (by simp; omega); simpa [nth] using this
    have hp := pz_pos (l := l) l.length (Nat.le_refl _) hl
    rw [List.take_length] at hp
    refine mayF_ok (by simpa using hl) (by simp at h2 ⊢; omega) ?_
    rw [pz_cons] at h3
    simp only [List.drop_succ_cons, List.drop_zero]
    split at h3
    · omega
    · have : 1 ≤ z := by omega
      have := Int.mul_le_mul_of_nonneg_right this (show 0 ≤ pz l by omega)
      omega
/-- Of an array that may be: so many items, so many atoms each. -/
theorem items_all {sh at' : List Int} (h : mayA sh at' = 0) {N z : Nat} (hN : tal sh = N) (hz : itmZ sh at' = z) : N * z = at'.length ∧ (0 < N → pr (sh.drop 1) = z) := by
  obtain ⟨h1, h2⟩ := mayA_zero h
  have e : (at'.length : Int) = N * pr (sh.drop 1) := by
    rw [h2]
    cases sh with
    | nil => simp [tal] at hN; rw [← hN]; simp [pr]
    | cons x l =>
      have : x = N := by simpa [tal, nth] using hN
      rw [pr_cons, this]; rfl
  have hp := pr_small (mayF_tail h1) (sh.drop 1).length (Nat.le_refl _)
  rw [List.take_length] at hp
  obtain ⟨m, hm⟩ : ∃ m : Nat, pr (sh.drop 1) = m := ⟨(pr (sh.drop 1)).toNat, by omega⟩
  rw [hm] at e
  have e' : at'.length = N * m := by exact_mod_cast e
  unfold itmZ at hz
  rw [hN, e'] at hz
  simp only [Int.toNat_natCast] at hz
  by_cases h0 : 0 < N
  · rw [Nat.mul_div_cancel_left _ h0] at hz
    subst hz
    exact ⟨e'.symm, fun _ => hm⟩
  · obtain rfl : N = 0 := by omega
    exact ⟨by rw [e']; simp, fun h => absurd h (by omega)⟩
theorem part_len {at' : List Int} {N k z : Nat} (h : N * z = at'.length) (hk : k < N) : ((at'.drop (k * z)).take z).length = z := by
  have : (k + 1) * z ≤ N * z := Nat.mul_le_mul_right _ hk
  rw [Nat.add_mul, Nat.one_mul] at this
  simp; omega
theorem part_more {at' : List Int} (k z : Nat) : at'.take (k * z) ++ (at'.drop (k * z)).take z = at'.take ((k + 1) * z) := by
  rw [Nat.add_mul, Nat.one_mul, List.take_add]

theorem item_at (so ao : Option Addr) (sn sc an ac : Nat) (sh at' : List Int) (W : World) (h : Rd W so sn sh) (hs : Sl so sn sc) (g : Rd W ao an at') (gs : Sl ao an ac) (h0 : mayA sh at' = 0) {N z : Nat} (hN : tal sh = N) (hz : itmZ sh at' = z) (k : Nat) (hk : k < N) (i : Int) (hi : i = k ∨ i = (k : Int) - N) :
    Calls Tryz.prog 96 #[.agg #[.slice so sn sc, .slice ao an ac], .int .i64 i] W fun e w' => ∃ o1 c1 o2 c2, e = .returned (.tuple #[.agg #[.slice o1 (sn - 1) c1, .slice o2 z c2], .int .i64 0]) ∧ Rd w' o1 (sn - 1) (sh.drop 1) ∧ Rd w' o2 z ((at'.drop (k * z)).take z) ∧ Sl o2 z c2 ∧ Below W.heap.size W w' := by
  refine (item_any so ao sn sc an ac sh at' i W h hs g gs).mono fun e w' ⟨o1, n1, c1, o2, n2, c2, x1, x2, x3, x4, x5⟩ => ?_
  have e0 := itmE_in (i := i) h0 (by rw [hN]; omega)
  obtain ⟨e1, e2⟩ := itm_yes e0
  have ej : itmJ sh i = k := by unfold itmJ; rw [hN]; split <;> omega
  rw [ej, hz] at e2
  rw [e0] at x1
  rw [e1] at x2
  rw [e2] at x3
  have l1 := x2.rd.len
  have l2 := x3.rd.len
  rw [List.length_drop, h.len] at l1
  rw [part_len (items_all h0 hN hz).1 hk] at l2
  subst l1 l2
  exact ⟨o1, c1, o2, c2, x1, x2.rd, x3.rd, x3.sl, x5⟩
theorem item_beyond (so ao : Option Addr) (sn sc an ac : Nat) (sh at' : List Int) (W : World) (h : Rd W so sn sh) (hs : Sl so sn sc) (g : Rd W ao an at') (gs : Sl ao an ac) (h0 : mayA sh at' = 0) {N : Nat} (hN : tal sh = N) (i : Int) (hi : i = N ∨ i = -(N : Int) - 1) :
    Calls Tryz.prog 96 #[.agg #[.slice so sn sc, .slice ao an ac], .int .i64 i] W fun e w' => ∃ o1 n1 c1 o2 n2 c2, e = .returned (.tuple #[.agg #[.slice o1 n1 c1, .slice o2 n2 c2], .int .i64 13]) ∧ Below W.heap.size W w' := by
  refine (item_any so ao sn sc an ac sh at' i W h hs g gs).mono fun e w' ⟨o1, n1, c1, o2, n2, c2, x1, x2, x3, x4, x5⟩ => ?_
  rw [itmE_out (i := i) h0 (by rw [hN]; omega)] at x1
  exact ⟨o1, n1, c1, o2, n2, c2, x1, x5⟩
theorem item_not (so ao : Option Addr) (sn sc an ac : Nat) (sh at' : List Int) (W : World) (h : Rd W so sn sh) (hs : Sl so sn sc) (g : Rd W ao an at') (gs : Sl ao an ac) (h0 : mayA sh at' ≠ 0) (i : Int) :
    Calls Tryz.prog 96 #[.agg #[.slice so sn sc, .slice ao an ac], .int .i64 i] W fun e w' => ∃ o1 n1 c1 o2 n2 c2, e = .returned (.tuple #[.agg #[.slice o1 n1 c1, .slice o2 n2 c2], .int .i64 1]) ∧ Below W.heap.size W w' := by
  refine (item_any so ao sn sc an ac sh at' i W h hs g gs).mono fun e w' ⟨o1, n1, c1, o2, n2, c2, x1, x2, x3, x4, x5⟩ => ?_
  rw [itmE_may (i := i) h0] at x1
  exact ⟨o1, n1, c1, o2, n2, c2, x1, x5⟩

theorem bx_first {w : World} {so : Option Addr} {sn sc : Nat} {ao : Option Addr} {an ac : Nat} {sh at' : List Int} (h : Rd w so sn sh) (g : Rd w ao an at') : Bx (w.alloc (.cells #[.slice so sn sc, .slice ao an ac] 25)) w.heap.size so sn sc ao an ac sh at' := bx_new h g

end Go.Proofs.YtjpdjnkmipfmbaaGreat
