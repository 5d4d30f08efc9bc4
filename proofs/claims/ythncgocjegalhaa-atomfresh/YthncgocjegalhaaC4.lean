
/- Contract: some items in a row. -/

import Derived.Test.YthncgocjegalhaaA10

import Derived.Test.YthncgocjegalhaaB5m

import Derived.Lib.AppendZerosOnto

import Derived.Lib.Overlaps

import Derived.Deep.RegionLaw

namespace Go.Proofs.Ythncgocjegalhaa

open Go.RowKit

set_option linter.unusedVariables false

/-- A list of one's own, of either word. -/
theorem Fr.ft {w : World} {B : Nat} {ao : Option Addr} {n cap : Nat} {zs : List Int} (h : Fr w B ao n cap zs) : Ft 3 w B ao n cap zs := ⟨h.rd, h.own⟩

/-- A copy into a row of one's own, when it is run, of either kind of number. -/
theorem Ty.one {s e : TypeId} (ty : Ty s e) : (Try.prog.info? e).map (·.size) = some 1 := by
  obtain ⟨i0, hi, hz0, hz1, hz2⟩ := info_parts ty.info
  rw [hi]; simp [hz1]
/-- A row that holds these numbers at its head. -/
theorem Ft.row {e : TypeId} {w : World} {B g n cap : Nat} {zs : List Int} {cur : List Value} (hg : w.heap[g]? = some (.cells cur.toArray e (0, 0))) (hB : B ≤ g) (hl : zs.length = n) (hr : n * 8 ≤ 140737488351232) (hn : ∀ k, k < n → -9223372036854775808 ≤ nth zs k ∧ nth zs k ≤ 9223372036854775807)
    (hnc : n ≤ cap) (hcm : cap ≤ maxLen) (hcl : cur.length = cap) (ht : cur.take n = zs.map (Value.int .i64)) : Ft e w B (some ⟨g, 0, none⟩) n cap zs := by
  obtain ⟨ao, cap', ee, hf⟩ := Ft.mk' (e := e) (w := w) (B := B) (v := .slice (some ⟨g, 0, none⟩) n cap) hl hr hn ⟨by simp [hl], .inr ⟨g, cap, cur.toArray, rfl, hB, hg, hnc, hcm, by simp [hcl], by simpa using ht⟩⟩
  cases ee
  exact hf
end Go.Proofs.Ythncgocjegalhaa

namespace Go.Proofs.Ythncgocjegalhaa

open Go.RowKit

set_option linter.unusedVariables false

/-- A part of a slice, wherever it lies. -/
theorem Rd.sub {w : World} {ao po : Option Addr} {n ac lo hi : Nat} {zs : List Int} (h : Rd w ao n zs) (hs : Sl ao n ac) (hpo : (if ac = lo then ao else Option.map (fun x => x.add lo) ao) = po) (h1 : lo ≤ hi) (h2 : hi ≤ n) : Rd w po (hi - lo) ((zs.drop lo).take (hi - lo)) ∧ Sl po (hi - lo) (ac - lo) := by
  have hle := hs.le
  have hmx := hs.max
  subst hpo
  by_cases c : ac = lo
  · rw [if_pos c]
    have e : hi - lo = 0 := by omega
    rw [e, List.take_zero]
    exact ⟨Rd.empty _ _, fun e' => ⟨rfl, by omega⟩, by omega, by omega⟩
  · rw [if_neg c]
    cases ao with
    | none => have := hs.nil rfl; omega
    | some a =>
      refine ⟨?_, fun e => (by simp at e), by omega, by omega⟩
      by_cases h0 : hi - lo = 0
      · rw [h0, List.take_zero]; exact Rd.empty _ _
      · obtain ⟨b, off, e, _, _⟩ := h.cells (by omega)
        cases e
        have := h.part (lo := lo) (hi := hi) (z := hi - lo) (by omega) h2
        rw [Option.map_some, add_at]
        exact this

end Go.Proofs.Ythncgocjegalhaa
