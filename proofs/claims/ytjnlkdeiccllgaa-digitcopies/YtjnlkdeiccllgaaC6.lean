
/- Contracts: pieces one behind the other; all pieces. -/

import Derived.Test.YtjnlkdeiccllgaaB1
import Derived.Test.YtjnlkdeiccllgaaA11
import Derived.Test.YtjnlkdeiccllgaaC2


namespace Go.Proofs.Ytjnlkdeiccllgaa

open Go.RowKit

set_option linter.unusedVariables false

theorem pz_foldl (l : List Int) : ∀ a : Int, l.foldl (fun p z => if z = 0 then p else p * z) a = a * pz l := by
  induction l with
  | nil => intro a; simp [pz]
  | cons z l ih =>
    intro a
    simp only [pz, List.foldl_cons]
    rw [ih, ih]
    split
    · simp
    · rw [Int.one_mul, Int.mul_assoc]
theorem pz_cons (z : Int) (l : List Int) : pz (z :: l) = (if z = 0 then 1 else z) * pz l := by
  conv => lhs; unfold pz; rw [List.foldl_cons, pz_foldl]
  simp
theorem mayF_tail {sh : List Int} (h : mayF sh = 0) : mayF (sh.drop 1) = 0 := by
  obtain ⟨h1, h2, h3⟩ := mayF_zero h
  cases sh with
  | nil => exact h
  | cons z l =>
    have hz : 0 ≤ z := h1 0 (by simp)
    have hl : ∀ k, k < l.length → 0 ≤ nth l k := fun k hk => by have := h1 (k + 1) (by simp; omega); simpa [nth] using this
    have hp := pz_pos (l := l) l.length (Nat.le_refl _) hl
    rw [List.take_length] at hp
    refine mayF_ok (by simpa using hl) (by simp at h2 ⊢; omega) ?_
    rw [pz_cons] at h3
    simp only [List.drop_succ_cons, List.drop_zero]
    split at h3
    · omega
    · have : 1 ≤ z := by omega
      have := Int.mul_le_mul_of_nonneg_right this (show 0 ≤ pz l by omega)
      omega
/-- Of an array that may be: so many items, so many atoms each. -/
theorem items_all {sh at' : List Int} (h : mayA sh at' = 0) {N z : Nat} (hN : tal sh = N) (hz : itmZ sh at' = z) : N * z = at'.length ∧ (0 < N → pr (sh.drop 1) = z) := by
  obtain ⟨h1, h2⟩ := mayA_zero h
  have e : (at'.length : Int) = N * pr (sh.drop 1) := by
    rw [h2]
    cases sh with
    | nil => simp [tal] at hN; rw [← hN]; simp [pr]
    | cons x l =>
      have : x = N := by simpa [tal, nth] using hN
      rw [pr_cons, this]; rfl
  have hp := pr_small (mayF_tail h1) (sh.drop 1).length (Nat.le_refl _)
  rw [List.take_length] at hp
  obtain ⟨m, hm⟩ : ∃ m : Nat, pr (sh.drop 1) = m := ⟨(pr (sh.drop 1)).toNat, by omega⟩
  rw [hm] at e
  have e' : at'.length = N * m := by exact_mod_cast e
  unfold itmZ at hz
  rw [hN, e'] at hz
  simp only [Int.toNat_natCast] at hz
  by_cases h0 : 0 < N
  · rw [Nat.mul_div_cancel_left _ h0] at hz
    subst hz
    exact ⟨e'.symm, fun _ => hm⟩
  · obtain rfl : N = 0 := by omega
    exact ⟨by rw [e']; simp, fun h => absurd h (by omega)⟩
theorem part_len {at' : List Int} {N k z : Nat} (h : N * z = at'.length) (hk : k < N) : ((at'.drop (k * z)).take z).length = z := by
  have : (k + 1) * z ≤ N * z := Nat.mul_le_mul_right _ hk
  rw [Nat.add_mul, Nat.one_mul] at this
  simp; omega
theorem part_more {at' : List Int} (k z : Nat) : at'.take (k * z) ++ (at'.drop (k * z)).take z = at'.take ((k + 1) * z) := by
  rw [Nat.add_mul, Nat.one_mul, List.take_add]

theorem bx_first {w : World} {so : Option Addr} {sn sc : Nat} {ao : Option Addr} {an ac : Nat} {sh at' : List Int} (h : Rd w so sn sh) (g : Rd w ao an at') : Bx (w.alloc (.cells #[.slice so sn sc, .slice ao an ac] 26)) w.heap.size so sn sc ao an ac sh at' := bx_new h g

end Go.Proofs.Ytjnlkdeiccllgaa


namespace Go.Proofs.Ytjnlkdeiccllgaa

open Go.RowKit

set_option linter.unusedVariables false

end Go.Proofs.Ytjnlkdeiccllgaa



namespace Go.Proofs.Ytjnlkdeiccllgaa

open Go.RowKit

set_option linter.unusedVariables false

/-- A part of a slice, wherever it lies. -/
theorem Rd.sub {w : World} {ao po : Option Addr} {n ac lo hi : Nat} {zs : List Int} (h : Rd w ao n zs) (hs : Sl ao n ac) (hpo : (if ac = lo then ao else Option.map (fun x => x.add lo) ao) = po) (h1 : lo ≤ hi) (h2 : hi ≤ n) : Rd w po (hi - lo) ((zs.drop lo).take (hi - lo)) ∧ Sl po (hi - lo) (ac - lo) := by
  have hle := hs.le
  have hmx := hs.max
  subst hpo
  by_cases c : ac = lo
  · rw [if_pos c]
    have e : hi - lo = 0 := by omega
    rw [e, List.take_zero]
    exact ⟨Rd.empty _ _, fun e' => ⟨rfl, by omega⟩, by omega, by omega⟩
  · rw [if_neg c]
    cases ao with
    | none => have := hs.nil rfl; omega
    | some a =>
      refine ⟨?_, fun e => (by simp at e), by omega, by omega⟩
      by_cases h0 : hi - lo = 0
      · rw [h0, List.take_zero]; exact Rd.empty _ _
      · obtain ⟨b, off, e, _, _⟩ := h.cells (by omega)
        cases e
        have := h.part (lo := lo) (hi := hi) (z := hi - lo) (by omega) h2
        rw [Option.map_some, add_at]
        exact this

/-- Which error Part tells, the shape and the atoms. -/
def prtE (sh at' : List Int) (f n : Int) : Int := if mayA sh at' ≠ 0 then 1 else if f < 0 ∨ n < 0 ∨ tal sh - f < n then 13 else 0
def isz (sh : List Int) : Nat := (pr (sh.drop 1)).toNat
def prtS (sh at' : List Int) (f n : Int) : List Int := if prtE sh at' f n = 0 then n :: sh.drop 1 else []
def prtA (sh at' : List Int) (f n : Int) : List Int := if prtE sh at' f n = 0 then (at'.drop (f.toNat * isz sh)).take (n.toNat * isz sh) else []

theorem isz_all {sh at' : List Int} (h : mayA sh at' = 0) : tal sh * pr (sh.drop 1) = at'.length ∧ 0 ≤ pr (sh.drop 1) ∧ pr (sh.drop 1) ≤ 4096 ∧ mayF (sh.drop 1) = 0 ∧ 0 ≤ tal sh ∧ tal sh ≤ 4096 ∧ at'.length ≤ 4096 := by
  obtain ⟨h0, h1⟩ := mayA_zero h
  have t := mayF_tail h0
  have p := pr_small t (sh.drop 1).length (Nat.le_refl _)
  rw [List.take_length] at p
  have q := pr_small h0 sh.length (Nat.le_refl _)
  rw [List.take_length] at q
  have b := tal_bd h0
  refine ⟨?_, p.1, p.2, t, b.1, b.2, by omega⟩
  rw [h1]
  cases sh with
  | nil => simp [tal, pr]
  | cons x r => rw [pr_cons]; simp [tal, nth]

theorem prt_may {sh at' : List Int} {f n : Int} (h : mayA sh at' ≠ 0) : prtE sh at' f n = 1 ∧ prtS sh at' f n = [] ∧ prtA sh at' f n = [] := by
  have e : prtE sh at' f n = 1 := if_pos h
  exact ⟨e, by unfold prtS; rw [e]; rfl, by unfold prtA; rw [e]; rfl⟩
theorem prt_out {sh at' : List Int} {f n : Int} (h : mayA sh at' = 0) (k : f < 0 ∨ n < 0 ∨ tal sh - f < n) : prtE sh at' f n = 13 ∧ prtS sh at' f n = [] ∧ prtA sh at' f n = [] := by
  have e : prtE sh at' f n = 13 := by unfold prtE; rw [if_neg (by omega), if_pos k]
  exact ⟨e, by unfold prtS; rw [e]; rfl, by unfold prtA; rw [e]; rfl⟩
theorem prt_in {sh at' : List Int} {fr m : Nat} (h : mayA sh at' = 0) (k : (fr : Int) + m ≤ tal sh) : prtE sh at' fr m = 0 ∧ prtS sh at' fr m = (m : Int) :: sh.drop 1 ∧ prtA sh at' fr m = (at'.drop (fr * isz sh)).take (m * isz sh) := by
  have e : prtE sh at' fr m = 0 := by unfold prtE; rw [if_neg (by omega), if_neg (by omega)]
  exact ⟨e, by unfold prtS; rw [if_pos e], by unfold prtA; rw [if_pos e]; simp⟩

end Go.Proofs.Ytjnlkdeiccllgaa


namespace Go.Proofs.Ytjnlkdeiccllgaa

open Go.RowKit

set_option linter.unusedVariables false

/-- The cells of the first k pieces. -/
def pcs (p : Nat → Int × Int) (k : Nat) : List Value := (List.range k).flatMap fun j => [.int .i64 (p j).1, .int .i64 (p j).2]
theorem pcs_succ (p : Nat → Int × Int) (k : Nat) : pcs p (k + 1) = pcs p k ++ [.int .i64 (p k).1, .int .i64 (p k).2] := by
  unfold pcs; rw [List.range_succ, List.flatMap_append]; simp
theorem pcs_len (p : Nat → Int × Int) : ∀ k, (pcs p k).length = k * 2
  | 0 => rfl
  | k + 1 => by rw [pcs_succ, List.length_append, pcs_len p k]; simp; omega
theorem pcs_at (p : Nat → Int × Int) : ∀ k j, j < k → (pcs p k)[j * 2]? = some (.int .i64 (p j).1) ∧ (pcs p k)[j * 2 + 1]? = some (.int .i64 (p j).2)
  | 0, j, h => by omega
  | k + 1, j, h => by
    rw [pcs_succ]
    by_cases c : j < k
    · obtain ⟨h1, h2⟩ := pcs_at p k j c
      rw [List.getElem?_append_left (by rw [pcs_len]; omega), List.getElem?_append_left (by rw [pcs_len]; omega)]
      exact ⟨h1, h2⟩
    · obtain rfl : j = k := by omega
      rw [List.getElem?_append_right (by rw [pcs_len]; omega), List.getElem?_append_right (by rw [pcs_len]; omega), pcs_len]
      simp
end Go.Proofs.Ytjnlkdeiccllgaa


namespace Go.Proofs.Ytjnlkdeiccllgaa

open Go.RowKit

set_option linter.unusedVariables false

/-- The j-th piece of n of N items, one behind the other. -/
def chk (N n : Nat) (j : Nat) : Int × Int := (((j * n : Nat) : Int), ((min n (N - j * n) : Nat) : Int))

/-- What the pieces of n of N items are, n being above or below 0. -/
structure Pcs (N : Nat) (n : Int) (K : Nat) (p : Nat → Int × Int) : Prop where
  pos : 0 < n → K = ((N : Int) - n + 1).toNat ∧ p = fun (j : Nat) => ((j : Int), n)
  neg : n < 0 → ∃ m : Nat, m = min n.natAbs N ∧ (∀ j, j < K ↔ j * m < N) ∧ p = chk N m

end Go.Proofs.Ytjnlkdeiccllgaa
