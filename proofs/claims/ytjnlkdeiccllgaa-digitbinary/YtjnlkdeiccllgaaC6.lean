
/- Contracts: pieces one behind the other; all pieces. -/

import Derived.Test.YtjnlkdeiccllgaaC2
import Derived.Test.YtjnlkdeiccllgaaB5m

namespace Go.Proofs.Ytjnlkdeiccllgaa

open Go.RowKit

set_option linter.unusedVariables false

end Go.Proofs.Ytjnlkdeiccllgaa



namespace Go.Proofs.Ytjnlkdeiccllgaa

open Go.RowKit

set_option linter.unusedVariables false

/-- A part of a slice, wherever it lies. -/
theorem Rd.sub {w : World} {ao po : Option Addr} {n ac lo hi : Nat} {zs : List Int} (h : Rd w ao n zs) (hs : Sl ao n ac) (hpo : (if ac = lo then ao else Option.map (fun x => x.add lo) ao) = po) (h1 : lo ≤ hi) (h2 : hi ≤ n) : Rd w po (hi - lo) ((zs.drop lo).take (hi - lo)) ∧ Sl po (hi - lo) (ac - lo) := by
  have hle := hs.le
  have hmx := hs.max
  subst hpo
  by_cases c : ac = lo
  · rw [if_pos c]
    have e : hi - lo = 0 := by omega
    rw [e, List.take_zero]
    exact ⟨Rd.empty _ _, fun e' => ⟨rfl, by omega⟩, by omega, by omega⟩
  · rw [if_neg c]
    cases ao with
    | none => have := hs.nil rfl; omega
    | some a =>
      refine ⟨?_, fun e => (by simp at e), by omega, by omega⟩
      by_cases h0 : hi - lo = 0
      · rw [h0, List.take_zero]; exact Rd.empty _ _
      · obtain ⟨b, off, e, _, _⟩ := h.cells (by omega)
        cases e
        have := h.part (lo := lo) (hi := hi) (z := hi - lo) (by omega) h2
        rw [Option.map_some, add_at]
        exact this

/-- Which error Part tells, the shape and the atoms. -/
def prtE (sh at' : List Int) (f n : Int) : Int := if mayA sh at' ≠ 0 then 1 else if f < 0 ∨ n < 0 ∨ tal sh - f < n then 13 else 0
def isz (sh : List Int) : Nat := (pr (sh.drop 1)).toNat
def prtS (sh at' : List Int) (f n : Int) : List Int := if prtE sh at' f n = 0 then n :: sh.drop 1 else []
def prtA (sh at' : List Int) (f n : Int) : List Int := if prtE sh at' f n = 0 then (at'.drop (f.toNat * isz sh)).take (n.toNat * isz sh) else []

theorem isz_all {sh at' : List Int} (h : mayA sh at' = 0) : tal sh * pr (sh.drop 1) = at'.length ∧ 0 ≤ pr (sh.drop 1) ∧ pr (sh.drop 1) ≤ 4096 ∧ mayF (sh.drop 1) = 0 ∧ 0 ≤ tal sh ∧ tal sh ≤ 4096 ∧ at'.length ≤ 4096 := by
  obtain ⟨h0, h1⟩ := mayA_zero h
  have t := mayF_tail h0
  have p := pr_small t (sh.drop 1).length (Nat.le_refl _)
  rw [List.take_length] at p
  have q := pr_small h0 sh.length (Nat.le_refl _)
  rw [List.take_length] at q
  have b := tal_bd h0
  refine ⟨?_, p.1, p.2, t, b.1, b.2, by omega⟩
  rw [h1]
  cases sh with
  | nil => simp [tal, pr]
  | cons x r => rw [pr_cons]; simp [tal, nth]

theorem prt_may {sh at' : List Int} {f n : Int} (h : mayA sh at' ≠ 0) : prtE sh at' f n = 1 ∧ prtS sh at' f n = [] ∧ prtA sh at' f n = [] := by
  have e : prtE sh at' f n = 1 := if_pos h
  exact ⟨e, by unfold prtS; rw [e]; rfl, by unfold prtA; rw [e]; rfl⟩
theorem prt_out {sh at' : List Int} {f n : Int} (h : mayA sh at' = 0) (k : f < 0 ∨ n < 0 ∨ tal sh - f < n) : prtE sh at' f n = 13 ∧ prtS sh at' f n = [] ∧ prtA sh at' f n = [] := by
  have e : prtE sh at' f n = 13 := by unfold prtE; rw [if_neg (by omega), if_pos k]
  exact ⟨e, by unfold prtS; rw [e]; rfl, by unfold prtA; rw [e]; rfl⟩
theorem prt_in {sh at' : List Int} {fr m : Nat} (h : mayA sh at' = 0) (k : (fr : Int) + m ≤ tal sh) : prtE sh at' fr m = 0 ∧ prtS sh at' fr m = (m : Int) :: sh.drop 1 ∧ prtA sh at' fr m = (at'.drop (fr * isz sh)).take (m * isz sh) := by
  have e : prtE sh at' fr m = 0 := by unfold prtE; rw [if_neg (by omega), if_neg (by omega)]
  exact ⟨e, by unfold prtS; rw [if_pos e], by unfold prtA; rw [if_pos e]; simp⟩

end Go.Proofs.Ytjnlkdeiccllgaa


namespace Go.Proofs.Ytjnlkdeiccllgaa

open Go.RowKit

set_option linter.unusedVariables false

/-- The cells of the first k pieces. -/
def pcs (p : Nat → Int × Int) (k : Nat) : List Value := (List.range k).flatMap fun j => [.int .i64 (p j).1, .int .i64 (p j).2]
theorem pcs_succ (p : Nat → Int × Int) (k : Nat) : pcs p (k + 1) = pcs p k ++ [.int .i64 (p k).1, .int .i64 (p k).2] := by
  unfold pcs; rw [List.range_succ, List.flatMap_append]; simp
theorem pcs_len (p : Nat → Int × Int) : ∀ k, (pcs p k).length = k * 2
  | 0 => rfl
  | k + 1 => by rw [pcs_succ, List.length_append, pcs_len p k]; simp; omega
theorem pcs_at (p : Nat → Int × Int) : ∀ k j, j < k → (pcs p k)[j * 2]? = some (.int .i64 (p j).1) ∧ (pcs p k)[j * 2 + 1]? = some (.int .i64 (p j).2)
  | 0, j, h => by omega
  | k + 1, j, h => by
    rw [pcs_succ]
    by_cases c : j < k
    · obtain ⟨h1, h2⟩ := pcs_at p k j c
      rw [List.getElem?_append_left (by rw [pcs_len]; omega), List.getElem?_append_left (by rw [pcs_len]; omega)]
      exact ⟨h1, h2⟩
    · obtain rfl : j = k := by omega
      rw [List.getElem?_append_right (by rw [pcs_len]; omega), List.getElem?_append_right (by rw [pcs_len]; omega), pcs_len]
      simp
end Go.Proofs.Ytjnlkdeiccllgaa


namespace Go.Proofs.Ytjnlkdeiccllgaa

open Go.RowKit

set_option linter.unusedVariables false

/-- The j-th piece of n of N items, one behind the other. -/
def chk (N n : Nat) (j : Nat) : Int × Int := (((j * n : Nat) : Int), ((min n (N - j * n) : Nat) : Int))

/-- What the pieces of n of N items are, n being above or below 0. -/
structure Pcs (N : Nat) (n : Int) (K : Nat) (p : Nat → Int × Int) : Prop where
  pos : 0 < n → K = ((N : Int) - n + 1).toNat ∧ p = fun (j : Nat) => ((j : Int), n)
  neg : n < 0 → ∃ m : Nat, m = min n.natAbs N ∧ (∀ j, j < K ↔ j * m < N) ∧ p = chk N m

end Go.Proofs.Ytjnlkdeiccllgaa
