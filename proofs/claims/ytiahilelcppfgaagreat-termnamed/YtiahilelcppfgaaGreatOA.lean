
/- Terms whose lists lie in blocks of a kind; a list of terms that grows by append. -/

import Derived.Test.YtiahilelcppfgaaGreatTX

import Derived.Maps.AppendAt

namespace Go.Proofs.YtiahilelcppfgaaGreat

open Go.RowKit

set_option linter.unusedVariables false

/-- The blocks of a kind are as they were. -/
structure Kb (Q : Nat → Prop) (W V : World) : Prop where
  size : W.heap.size ≤ V.heap.size
  block : ∀ k, Q k → k < W.heap.size → V.heap[k]? = W.heap[k]?
theorem Kb.cell {Q : Nat → Prop} {W V : World} (u : Kb Q W V) {b o : Nat} (hb : Q b) (hl : b < W.heap.size) : V.cell? ⟨b, o, none⟩ = W.cell? ⟨b, o, none⟩ := by
  simp only [World.cell?]
  rw [u.block b hb hl]
theorem Kb.trans {Q : Nat → Prop} {W V U : World} (h : Kb Q W V) (k : Kb Q V U) : Kb Q W U := ⟨Nat.le_trans h.size k.size, fun j h1 h2 => (k.block j h1 (Nat.lt_of_lt_of_le h2 h.size)).trans (h.block j h1 h2)⟩
theorem Kb.of_below {Q : Nat → Prop} {B : Nat} {W V : World} (h : Below B W V) (hQ : ∀ b, Q b → b < W.heap.size → b < B) : Kb Q W V := ⟨h.size, fun k hk hl => h.block k (hQ k hk hl)⟩
theorem Kb.of_grown {Q : Nat → Prop} {W V : World} {r : Option Nat} (h : W.grownBy V r) (hQ : ∀ b, Q b → some b ≠ r) : Kb Q W V := ⟨h.size, fun k hk hl => h.block k hl (hQ k hk)⟩
theorem Rd.kb {Q : Nat → Prop} {W V : World} {ao : Option Addr} {n : Nat} {zs : List Int} (h : Rd W ao n zs) (u : Kb Q W V) (hb : ∀ a, ao = some a → Q a.block) : Rd V ao n zs := by
  refine ⟨h.len, h.room, h.num, fun h0 => ?_⟩
  obtain ⟨b, off, e, hl, hc⟩ := h.cells h0
  refine ⟨b, off, e, Nat.lt_of_lt_of_le hl u.size, fun k hk => ?_⟩
  rw [u.cell (by have := hb _ e; exact this) hl]
  exact hc k hk
end Go.Proofs.YtiahilelcppfgaaGreat
