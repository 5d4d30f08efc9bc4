
/- Contract: some items in a row. -/

import Derived.Test.YtldhochafkcpiaaGreatC2
import Derived.Test.YtldhochafkcpiaaGreatB5m


namespace Go.Proofs.YtldhochafkcpiaaGreat

open Go.RowKit

set_option linter.unusedVariables false

/-- A part of a slice, wherever it lies. -/
theorem Rd.sub {w : World} {ao po : Option Addr} {n ac lo hi : Nat} {zs : List Int} (h : Rd w ao n zs) (hs : Sl ao n ac) (hpo : (if ac = lo then ao else Option.map (fun x => x.add lo) ao) = po) (h1 : lo ≤ hi) (h2 : hi ≤ n) : Rd w po (hi - lo) ((zs.drop lo).take (hi - lo)) ∧ Sl po (hi - lo) (ac - lo) := by
  have hle := hs.le
  have hmx := hs.max
  subst hpo
  by_cases c : ac = lo
  · rw [if_pos c]
    have e : hi - lo = 0 := by omega
    rw [e, List.take_zero]
    exact ⟨Rd.empty _ _, fun e' => ⟨rfl, by omega⟩, by omega, by omega⟩
  · rw [if_neg c]
    cases ao with
    | none => have := hs.nil rfl; omega
    | some a =>
      refine ⟨?_, fun e => (by simp at e), by omega, by omega⟩
      by_cases h0 : hi - lo = 0
      · rw [h0, List.take_zero]; exact Rd.empty _ _
      · obtain ⟨b, off, e, _, _⟩ := h.cells (by omega)
        cases e
        have := h.part (lo := lo) (hi := hi) (z := hi - lo) (by omega) h2
        rw [Option.map_some, add_at]
        exact this

theorem isz_all {sh at' : List Int} (h : mayA sh at' = 0) : tal sh * pr (sh.drop 1) = at'.length ∧ 0 ≤ pr (sh.drop 1) ∧ pr (sh.drop 1) ≤ 4096 ∧ mayF (sh.drop 1) = 0 ∧ 0 ≤ tal sh ∧ tal sh ≤ 4096 ∧ at'.length ≤ 4096 := by
  obtain ⟨h0, h1⟩ := mayA_zero h
  have t := mayF_tail h0
  have p := pr_small t (sh.drop 1).length (Nat.le_refl _)
  rw [List.take_length] at p
  have q := pr_small h0 sh.length (Nat.le_refl _)
  rw [List.take_length] at q
  have b := tal_bd h0
  refine ⟨?_, p.1, p.2, t, b.1, b.2, by omega⟩
  rw [h1]
  cases sh with
  | nil => simp [tal, pr]
  | cons x r => rw [pr_cons]; simp [tal, nth]

end Go.Proofs.YtldhochafkcpiaaGreat
