
/- Memory that is written, by a set of blocks; lists of one mark each. -/

import Derived.Test.YthncgocjegalhaaA4

import Derived.Maps.AppendAt

import Derived.Deep.DeepAppendRoom

import Derived.Laws.OwnMore

namespace Go.Proofs.Ythncgocjegalhaa

open Go.RowKit

set_option linter.unusedVariables false

/-- Of what was there only blocks that S tells have been written. -/
structure Chg (S : Nat → Prop) (W W' : World) : Prop where
  os : W'.os = W.os
  tape : W'.tape = W.tape
  output : W'.output = W.output
  size : W.heap.size ≤ W'.heap.size
  block : ∀ k, k < W.heap.size → ¬ S k → W'.heap[k]? = W.heap[k]?
theorem Chg.refl (S : Nat → Prop) (W : World) : Chg S W W := ⟨rfl, rfl, rfl, Nat.le_refl _, fun _ _ _ => rfl⟩
theorem Chg.trans {S : Nat → Prop} {W W' W'' : World} (h : Chg S W W') (k : Chg S W' W'') : Chg S W W'' :=
  ⟨k.os.trans h.os, k.tape.trans h.tape, k.output.trans h.output, Nat.le_trans h.size k.size, fun j hj hs => (k.block j (Nat.lt_of_lt_of_le hj h.size) hs).trans (h.block j hj hs)⟩
theorem Chg.mono {S S' : Nat → Prop} {W W' : World} (h : Chg S W W') (hs : ∀ k, k < W.heap.size → S k → S' k) : Chg S' W W' :=
  ⟨h.os, h.tape, h.output, h.size, fun j hj hn => h.block j hj fun hS => hn (hs j hj hS)⟩
theorem Chg.of_grown {W W' : World} {row : Option Nat} (h : W.grownBy W' row) : Chg (fun k => row = some k) W W' :=
  ⟨h.os, h.tape, h.output, h.size, fun j hj hn => h.block j hj fun e => hn e.symm⟩
theorem Chg.of_below {B : Nat} {W W' : World} (h : Below B W W') (hB : W.heap.size ≤ B) (S : Nat → Prop) : Chg S W W' :=
  ⟨h.os, h.tape, h.output, h.size, fun j hj _ => h.block j (Nat.lt_of_lt_of_le hj hB)⟩
theorem Chg.below {S : Nat → Prop} {B : Nat} {w W W' : World} (h : Chg S W W') (hb : Below B w W) (hS : ∀ k, S k → B ≤ k) (hB : B ≤ w.heap.size) : Below B w W' :=
  ⟨h.os.trans hb.os, h.tape.trans hb.tape, h.output.trans hb.output, Nat.le_trans hb.size h.size, fun j hj => (h.block j (Nat.lt_of_lt_of_le (Nat.lt_of_lt_of_le hj hB) hb.size) fun hs => absurd (hS j hs) (by omega)).trans (hb.block j hj)⟩
theorem Chg.own {S : Nat → Prop} {W W' : World} {B e s n : Nat} {v : Value} {xs : List Value} (k : Chg S W W') (h : W.ownsRow B e s v n xs) (hS : ∀ g, v.ownBlock = some g → ¬ S g) : W'.ownsRow B e s v n xs := by
  refine ⟨h.1, ?_⟩
  rcases h.2 with h0 | ⟨g, c, cur, rfl, hB, hg, r⟩
  · exact .inl h0
  · exact .inr ⟨g, c, cur, rfl, hB, by rw [k.block g (Array.getElem?_eq_some_iff.1 hg).1 (hS g rfl)]; exact hg, r⟩
theorem Chg.at {S : Nat → Prop} {W W' : World} {g : Nat} {o : Obj} (k : Chg S W W') (h : W.heap[g]? = some o) (hS : ¬ S g) : W'.heap[g]? = some o := by
  rw [k.block g (Array.getElem?_eq_some_iff.1 h).1 hS]; exact h
theorem ownB {W : World} {B s n : Nat} {e : TypeId} {v : Value} {xs : List Value} (h : W.ownsRow B e s v n xs) {g : Nat} (hv : v.ownBlock = some g) : ∃ cs, W.heap[g]? = some (.cells cs e (0, 0)) := by
  rcases h.2 with ⟨rfl, _⟩ | ⟨g', cap, cur, rfl, _, hg, _⟩
  · simp [Value.ownBlock] at hv
  · simp [Value.ownBlock] at hv; subst hv; exact ⟨_, hg⟩
theorem kindB {W : World} {g : Nat} {cs cs' : Array Value} {t t' : TypeId} (h : W.heap[g]? = some (.cells cs t (0, 0))) (h' : W.heap[g]? = some (.cells cs' t' (0, 0))) : t = t' := by
  rw [h] at h'
  simp at h'
  exact h'.2
theorem own_len {W : World} {B n : Nat} {e : TypeId} {v : Value} {xs : List Value} (h : W.ownsRow B e 1 v n xs) : ∃ a c, v = .slice a n c := by
  rcases h.2 with ⟨rfl, h0⟩ | ⟨g, cap, cur, rfl, _⟩
  · exact ⟨none, 0, by rw [h0]⟩
  · exact ⟨_, _, rfl⟩

/-- Lists of ints, each in memory of its own, list k full of the mark c k. -/
structure Rwi (W : World) (e : TypeId) (vs : List Value) (c : Nat → Int) : Prop where
  own : ∀ (i : Nat) (v : Value), vs[i]? = some v → ∃ l : List Int, W.ownsRow 0 e 1 v l.length (l.map (Value.int .i64)) ∧ ∀ z ∈ l, z = c i
  apart : ∀ (i j : Nat) (v u : Value) (g : Nat), vs[i]? = some v → vs[j]? = some u → v.ownBlock = some g → u.ownBlock = some g → i = j
theorem Rwi.chg {S : Nat → Prop} {W W' : World} {e : TypeId} {vs : List Value} {c : Nat → Int} (h : Rwi W e vs c) (k : Chg S W W') (hS : ∀ (i : Nat) (v : Value) (g : Nat), vs[i]? = some v → v.ownBlock = some g → ¬ S g) : Rwi W' e vs c :=
  ⟨fun i v hi => by obtain ⟨l, h1, h2⟩ := h.own i v hi; exact ⟨l, k.own h1 fun g hv => hS i v g hi hv, h2⟩, h.apart⟩
theorem Rwi.lt {W : World} {e : TypeId} {vs : List Value} {c : Nat → Int} (h : Rwi W e vs c) (i : Nat) (v : Value) (g : Nat) (hi : vs[i]? = some v) (hv : v.ownBlock = some g) : g < W.heap.size := by
  obtain ⟨l, hs, _⟩ := h.own i v hi
  exact (hs.lt g hv).2
theorem last_of {vs : List Value} {x v : Value} {i : Nat} (h : (vs ++ [x])[i]? = some v) : (vs[i]? = some v ∧ i < vs.length) ∨ (i = vs.length ∧ v = x) := by
  by_cases hlt : i < vs.length
  · rw [List.getElem?_append_left hlt] at h; exact .inl ⟨h, hlt⟩
  · rw [List.getElem?_append_right (by omega)] at h
    match hk : i - vs.length, h with
    | 0, h => simp at h; exact .inr ⟨by omega, h.symm⟩
    | n + 1, h => simp at h
/-- A list more, that is none of these. -/
theorem Rwi.push {W : World} {e : TypeId} {vs : List Value} {c : Nat → Int} {x : Value} {l : List Int} (h : Rwi W e vs c) (hx : W.ownsRow 0 e 1 x l.length (l.map (Value.int .i64))) (hl : ∀ z ∈ l, z = c vs.length) (hne : ∀ (i : Nat) (v : Value) (g : Nat), vs[i]? = some v → v.ownBlock = some g → x.ownBlock ≠ some g) : Rwi W e (vs ++ [x]) c := by
  refine ⟨fun i v hi => ?_, fun i j v u g hi hj hv hu => ?_⟩
  · rcases last_of hi with ⟨hi, _⟩ | ⟨rfl, rfl⟩
    · exact h.own i v hi
    · exact ⟨l, hx, hl⟩
  · rcases last_of hi with ⟨hi', _⟩ | ⟨e1, e2⟩ <;> rcases last_of hj with ⟨hj', _⟩ | ⟨e3, e4⟩
    · exact h.apart i j v u g hi' hj' hv hu
    · subst e4; exact absurd hu (hne i v g hi' hv)
    · subst e2; exact absurd hv (hne j u g hj' hu)
    · omega
/-- The last list is another one, in the same place. -/
theorem Rwi.last {W W' : World} {R : Nat → Prop} {e : TypeId} {vs : List Value} {c : Nat → Int} {x y : Value} {l : List Int} (h : Rwi W e (vs ++ [x]) c) (k : Chg R W W') (hR : ∀ (i : Nat) (v : Value) (g : Nat), vs[i]? = some v → v.ownBlock = some g → ¬ R g) (hy : W'.ownsRow 0 e 1 y l.length (l.map (Value.int .i64))) (hl : ∀ z ∈ l, z = c vs.length) (hxy : y.ownBlock = x.ownBlock) : Rwi W' e (vs ++ [y]) c := by
  have key : ∀ i v, vs[i]? = some v → (vs ++ [x])[i]? = some v := fun i v hi => by rw [List.getElem?_append_left (List.getElem?_eq_some_iff.1 hi).1]; exact hi
  have hx : (vs ++ [x])[vs.length]? = some x := by simp
  refine ⟨fun i v hi => ?_, fun i j v u g hi hj hv hu => ?_⟩
  · rcases last_of hi with ⟨hi, hlt⟩ | ⟨rfl, rfl⟩
    · obtain ⟨l0, h1, h2⟩ := h.own i v (key i v hi)
      exact ⟨l0, k.own h1 fun g hv => hR i v g hi hv, h2⟩
    · exact ⟨l, hy, hl⟩
  · rcases last_of hi with ⟨hi', _⟩ | ⟨e1, e2⟩ <;> rcases last_of hj with ⟨hj', _⟩ | ⟨e3, e4⟩
    · exact h.apart i j v u g (key i v hi') (key j u hj') hv hu
    · subst e4; rw [hxy] at hu; have := h.apart i vs.length v x g (key i v hi') hx hv hu; have := (List.getElem?_eq_some_iff.1 hi').1; omega
    · subst e2; rw [hxy] at hv; have := h.apart j vs.length u x g (key j u hj') hx hu hv; have := (List.getElem?_eq_some_iff.1 hj').1; omega
    · omega
theorem Rwi.ne_last {W : World} {e : TypeId} {vs : List Value} {c : Nat → Int} {x : Value} (h : Rwi W e (vs ++ [x]) c) (i : Nat) (v : Value) (g : Nat) (hi : vs[i]? = some v) (hv : v.ownBlock = some g) : x.ownBlock ≠ some g := by
  intro e
  have hlt := (List.getElem?_eq_some_iff.1 hi).1
  have := h.apart i vs.length v x g (by rw [List.getElem?_append_left hlt]; exact hi) (by simp) hv e
  omega
end Go.Proofs.Ythncgocjegalhaa
