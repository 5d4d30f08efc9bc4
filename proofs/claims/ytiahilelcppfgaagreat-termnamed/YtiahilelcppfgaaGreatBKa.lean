
/- Memory that is written, by a set of blocks; lists of one mark each. -/

import Derived.Test.YtiahilelcppfgaaGreatA4

import Derived.Maps.AppendAt

import Derived.Deep.DeepAppendRoom

import Derived.Laws.OwnMore

namespace Go.Proofs.YtiahilelcppfgaaGreat

open Go.RowKit

set_option linter.unusedVariables false

/-- Of what was there only blocks that S tells have been written. -/
structure Chg (S : Nat → Prop) (W W' : World) : Prop where
  os : W'.os = W.os
  tape : W'.tape = W.tape
  output : W'.output = W.output
  size : W.heap.size ≤ W'.heap.size
  block : ∀ k, k < W.heap.size → ¬ S k → W'.heap[k]? = W.heap[k]?
theorem Chg.refl (S : Nat → Prop) (W : World) : Chg S W W := ⟨rfl, rfl, rfl, Nat.le_refl _, fun _ _ _ => rfl⟩
theorem Chg.trans {S : Nat → Prop} {W W' W'' : World} (h : Chg S W W') (k : Chg S W' W'') : Chg S W W'' :=
  ⟨k.os.trans h.os, k.tape.trans h.tape, k.output.trans h.output, Nat.le_trans h.size k.size, fun j hj hs => (k.block j (Nat.lt_of_lt_of_le hj h.size) hs).trans (h.block j hj hs)⟩
theorem Chg.mono {S S' : Nat → Prop} {W W' : World} (h : Chg S W W') (hs : ∀ k, k < W.heap.size → S k → S' k) : Chg S' W W' :=
  ⟨h.os, h.tape, h.output, h.size, fun j hj hn => h.block j hj fun hS => hn (hs j hj hS)⟩
theorem Chg.of_grown {W W' : World} {row : Option Nat} (h : W.grownBy W' row) : Chg (fun k => row = some k) W W' :=
  ⟨h.os, h.tape, h.output, h.size, fun j hj hn => h.block j hj fun e => hn e.symm⟩
theorem Chg.of_below {B : Nat} {W W' : World} (h : Below B W W') (hB : W.heap.size ≤ B) (S : Nat → Prop) : Chg S W W' :=
  ⟨h.os, h.tape, h.output, h.size, fun j hj _ => h.block j (Nat.lt_of_lt_of_le hj hB)⟩
theorem Chg.below {S : Nat → Prop} {B : Nat} {w W W' : World} (h : Chg S W W') (hb : Below B w W) (hS : ∀ k, S k → B ≤ k) (hB : B ≤ w.heap.size) : Below B w W' :=
  ⟨h.os.trans hb.os, h.tape.trans hb.tape, h.output.trans hb.output, Nat.le_trans hb.size h.size, fun j hj => (h.block j (Nat.lt_of_lt_of_le (Nat.lt_of_lt_of_le hj hB) hb.size) fun hs => absurd (hS j hs) (by omega)).trans (hb.block j hj)⟩
theorem Chg.own {S : Nat → Prop} {W W' : World} {B e s n : Nat} {v : Value} {xs : List Value} (k : Chg S W W') (h : W.ownsRow B e s v n xs) (hS : ∀ g, v.ownBlock = some g → ¬ S g) : W'.ownsRow B e s v n xs := by
  refine ⟨h.1, ?_⟩
  rcases h.2 with h0 | ⟨g, c, cur, rfl, hB, hg, r⟩
  · exact .inl h0
  · exact .inr ⟨g, c, cur, rfl, hB, by rw [k.block g (Array.getElem?_eq_some_iff.1 hg).1 (hS g rfl)]; exact hg, r⟩
theorem Chg.at {S : Nat → Prop} {W W' : World} {g : Nat} {o : Obj} (k : Chg S W W') (h : W.heap[g]? = some o) (hS : ¬ S g) : W'.heap[g]? = some o := by
  rw [k.block g (Array.getElem?_eq_some_iff.1 h).1 hS]; exact h
end Go.Proofs.YtiahilelcppfgaaGreat
