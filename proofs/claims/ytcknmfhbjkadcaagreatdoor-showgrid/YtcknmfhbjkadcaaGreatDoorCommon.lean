
/- Contract of package shape's commonOf. -/

import Derived.Test.YtcknmfhbjkadcaaGreatDoorAgree

namespace Go.Proofs.YtcknmfhbjkadcaaGreatDoor

open Go.RowKit

set_option linter.unusedVariables false

theorem Fr.head {w : World} {B : Nat} {ao : Option Addr} {n cap : Nat} {zs : List Int} (h : Fr w B ao n cap zs) (h0 : 0 < n) :
    ∃ g, ao = some ⟨g, 0, none⟩ ∧ B ≤ g ∧ g < w.heap.size ∧ (∀ k, k < n → w.cell? ⟨g, k, none⟩ = some (.int .i64 (nth zs k))) ∧ ∀ k, w.frozen? ⟨g, k, none⟩ = false := by
  rcases h.own.2 with ⟨e, h1⟩ | ⟨g, c, cur, e, hb, hg, _⟩
  · omega
  · cases e
    refine ⟨g, rfl, hb, (Array.getElem?_eq_some_iff.1 hg).1, fun k hk => ?_, fun k => h.own.frozenAt k⟩
    rw [h.own.cellAt k (by omega), nth_map (by rw [h.rd.len]; exact hk)]

theorem nth_set {zs : List Int} {j k : Nat} {u : Int} (hj : j < zs.length) : nth (zs.set j u) k = if k = j then u else nth zs k := by
  unfold nth
  by_cases e : k = j
  · subst e; simp [hj]
  · rw [if_neg e]
    simp [Ne.symm e]

theorem Fr.set {w : World} {B g : Nat} {n cap : Nat} {zs : List Int} (h : Fr w B (some ⟨g, 0, none⟩) n cap zs) (j : Nat) (hj : j < n) (u : Int) (h1 : -9223372036854775808 ≤ u) (h2 : u ≤ 9223372036854775807) :
    Fr (w.setCell ⟨g, j, none⟩ (.int .i64 u)) B (some ⟨g, 0, none⟩) n cap (zs.set j u) := by
  have hl := h.rd.len
  have hs := (h.own.stored j (.int .i64 u)).1
  rw [show (zs.map (Value.int .i64)).set j (.int .i64 u) = (zs.set j u).map (Value.int .i64) by rw [List.map_set]] at hs
  obtain ⟨ao, c, e, hf⟩ := Fr.mk' (zs := zs.set j u) (by rw [List.length_set]; exact hl) h.rd.room (fun k hk => by
    rw [nth_set (by omega)]
    split
    · exact ⟨h1, h2⟩
    · exact h.rd.num k hk) hs
  cases e
  exact hf

/-- A list with ones put ahead up to N numbers: the i-th of them. -/
def ext (a : List Int) (N i : Nat) : Int := if N - a.length ≤ i then nth a (i - (N - a.length)) else 1
/-- The common shape of two. -/
def com (a b : List Int) : List Int := (List.range (Nat.max a.length b.length)).map fun i => max (ext a (Nat.max a.length b.length) i) (ext b (Nat.max a.length b.length) i)
end Go.Proofs.YtcknmfhbjkadcaaGreatDoor
