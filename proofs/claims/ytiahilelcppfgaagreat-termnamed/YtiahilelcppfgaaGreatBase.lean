
/- Lists of numbers in memory: what a slice reads as, and what the document's words are of lists. -/

import Derived.WalkKit

import Derived.Deep.QuietTactic

import Derived.BigQuiet

import Derived.Laws.OwnMore

namespace Go.Proofs.YtiahilelcppfgaaGreat

open Go.RowKit

set_option linter.unusedVariables false

/-- The k-th number of a list. -/
def nth (zs : List Int) (k : Nat) : Int := zs.getD k 0

theorem nth_lt {zs : List Int} {k : Nat} (h : k < zs.length) : nth zs k = zs[k] := by
  simp [nth, h]
theorem nth_map {zs : List Int} {k : Nat} (h : k < zs.length) : (zs.map (Value.int .i64))[k]? = some (.int .i64 (nth zs k)) := by
  simp [nth, h]
theorem ext_nth {a b : List Int} (hl : a.length = b.length) (h : ∀ k, k < a.length → nth a k = nth b k) : a = b := by
  apply List.ext_getElem hl
  intro i h1 h2
  have := h i h1
  rwa [nth_lt h1, nth_lt h2] at this
theorem nth_take {zs : List Int} {k m : Nat} (h : k < m) : nth (zs.take m) k = nth zs k := by
  simp [nth, h]
/-- A slice of n numbers reads as the list zs. -/
structure Rd (w : World) (ao : Option Addr) (n : Nat) (zs : List Int) : Prop where
  len : zs.length = n
  room : n * 8 ≤ 140737488351232
  num : ∀ k, k < n → -9223372036854775808 ≤ nth zs k ∧ nth zs k ≤ 9223372036854775807
  cells : 0 < n → ∃ b off, ao = some ⟨b, off, none⟩ ∧ b < w.heap.size ∧ ∀ k, k < n → w.cell? ⟨b, off + k, none⟩ = some (.int .i64 (nth zs k))

theorem Rd.below {B : Nat} {w w' : World} {ao : Option Addr} {n : Nat} {zs : List Int} (h : Rd w ao n zs) (hb : Below B w w') (hB : w.heap.size ≤ B) : Rd w' ao n zs := by
  refine ⟨h.len, h.room, h.num, fun h0 => ?_⟩
  obtain ⟨b, off, e, hl, hc⟩ := h.cells h0
  refine ⟨b, off, e, Nat.lt_of_lt_of_le hl hb.size, fun k hk => ?_⟩
  rw [hb.cell (p := ⟨b, off + k, none⟩) (Nat.lt_of_lt_of_le hl hB)]
  exact hc k hk

theorem Rd.drewN {w : World} {ao : Option Addr} {n : Nat} {zs : List Int} (h : Rd w ao n zs) (m : Nat) : Rd (w.drewN m) ao n zs := by
  refine ⟨h.len, h.room, h.num, fun h0 => ?_⟩
  obtain ⟨b, off, e, hl, hc⟩ := h.cells h0
  exact ⟨b, off, e, by simpa using hl, fun k hk => by simpa using hc k hk⟩

theorem Rd.alloc {w : World} {ao : Option Addr} {n : Nat} {zs : List Int} (h : Rd w ao n zs) (o : Obj) : Rd (w.alloc o) ao n zs :=
  h.below ((Below.refl _ _).alloc (Nat.le_refl _) _) (Nat.le_refl _)

theorem Rd.nil (w : World) : Rd w none 0 [] := ⟨rfl, by omega, fun k hk => by omega, fun h => by omega⟩
theorem Rd.empty (w : World) (ao : Option Addr) : Rd w ao 0 [] := ⟨rfl, by omega, fun k hk => by omega, fun h => by omega⟩

theorem ret_int {k : IntKind} {a b : Int} (h : a = b) : Ending.returned (.int k a) = .returned (.int k b) := by rw [h]
theorem ret_bool {a b : Bool} (h : a = b) : Ending.returned (.bool a) = .returned (.bool b) := by rw [h]
end Go.Proofs.YtiahilelcppfgaaGreat
