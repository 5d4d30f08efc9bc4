
/- Memory that is written, by a set of blocks; lists of one mark each; lists that are being filled, or grown. -/

import Derived.Test.YtdeglhifemmknaaCopy

import Derived.Maps.AppendAt

import Derived.Deep.DeepAppendRoom

import Derived.Deep.CutBlock

import Derived.Deep.LoopGhost

import Derived.Laws.OwnMore

namespace Go.Proofs.Ytdeglhifemmknaa

open Go.RowKit

set_option linter.unusedVariables false

/-- Of what was there only blocks that S tells have been written. -/
structure Chg (S : Nat → Prop) (W W' : World) : Prop where
  os : W'.os = W.os
  tape : W'.tape = W.tape
  output : W'.output = W.output
  size : W.heap.size ≤ W'.heap.size
  block : ∀ k, k < W.heap.size → ¬ S k → W'.heap[k]? = W.heap[k]?
theorem Chg.refl (S : Nat → Prop) (W : World) : Chg S W W := ⟨rfl, rfl, rfl, Nat.le_refl _, fun _ _ _ => rfl⟩
theorem Chg.trans {S : Nat → Prop} {W W' W'' : World} (h : Chg S W W') (k : Chg S W' W'') : Chg S W W'' :=
  ⟨k.os.trans h.os, k.tape.trans h.tape, k.output.trans h.output, Nat.le_trans h.size k.size, fun j hj hs => (k.block j (Nat.lt_of_lt_of_le hj h.size) hs).trans (h.block j hj hs)⟩
theorem Chg.mono {S S' : Nat → Prop} {W W' : World} (h : Chg S W W') (hs : ∀ k, k < W.heap.size → S k → S' k) : Chg S' W W' :=
  ⟨h.os, h.tape, h.output, h.size, fun j hj hn => h.block j hj fun hS => hn (hs j hj hS)⟩
theorem Chg.of_grown {W W' : World} {row : Option Nat} (h : W.grownBy W' row) : Chg (fun k => row = some k) W W' :=
  ⟨h.os, h.tape, h.output, h.size, fun j hj hn => h.block j hj fun e => hn e.symm⟩
theorem Chg.of_below {B : Nat} {W W' : World} (h : Below B W W') (hB : W.heap.size ≤ B) (S : Nat → Prop) : Chg S W W' :=
  ⟨h.os, h.tape, h.output, h.size, fun j hj _ => h.block j (Nat.lt_of_lt_of_le hj hB)⟩
theorem Chg.below {S : Nat → Prop} {B : Nat} {w W W' : World} (h : Chg S W W') (hb : Below B w W) (hS : ∀ k, S k → B ≤ k) (hB : B ≤ w.heap.size) : Below B w W' :=
  ⟨h.os.trans hb.os, h.tape.trans hb.tape, h.output.trans hb.output, Nat.le_trans hb.size h.size, fun j hj => (h.block j (Nat.lt_of_lt_of_le (Nat.lt_of_lt_of_le hj hB) hb.size) fun hs => absurd (hS j hs) (by omega)).trans (hb.block j hj)⟩
theorem Chg.own {S : Nat → Prop} {W W' : World} {B e s n : Nat} {v : Value} {xs : List Value} (k : Chg S W W') (h : W.ownsRow B e s v n xs) (hS : ∀ g, v.ownBlock = some g → ¬ S g) : W'.ownsRow B e s v n xs := by
  refine ⟨h.1, ?_⟩
  rcases h.2 with h0 | ⟨g, c, cur, rfl, hB, hg, r⟩
  · exact .inl h0
  · exact .inr ⟨g, c, cur, rfl, hB, by rw [k.block g (Array.getElem?_eq_some_iff.1 hg).1 (hS g rfl)]; exact hg, r⟩
theorem Chg.at {S : Nat → Prop} {W W' : World} {g : Nat} {o : Obj} (k : Chg S W W') (h : W.heap[g]? = some o) (hS : ¬ S g) : W'.heap[g]? = some o := by
  rw [k.block g (Array.getElem?_eq_some_iff.1 h).1 hS]; exact h
theorem ownB {W : World} {B s n : Nat} {e : TypeId} {v : Value} {xs : List Value} (h : W.ownsRow B e s v n xs) {g : Nat} (hv : v.ownBlock = some g) : ∃ cs, W.heap[g]? = some (.cells cs e (0, 0)) := by
  rcases h.2 with ⟨rfl, _⟩ | ⟨g', cap, cur, rfl, _, hg, _⟩
  · simp [Value.ownBlock] at hv
  · simp [Value.ownBlock] at hv; subst hv; exact ⟨_, hg⟩
theorem kindB {W : World} {g : Nat} {cs cs' : Array Value} {t t' : TypeId} (h : W.heap[g]? = some (.cells cs t (0, 0))) (h' : W.heap[g]? = some (.cells cs' t' (0, 0))) : t = t' := by
  rw [h] at h'
  simp at h'
  exact h'.2
theorem own_len {W : World} {B n : Nat} {e : TypeId} {v : Value} {xs : List Value} (h : W.ownsRow B e 1 v n xs) : ∃ a c, v = .slice a n c := by
  rcases h.2 with ⟨rfl, h0⟩ | ⟨g, cap, cur, rfl, _⟩
  · exact ⟨none, 0, by rw [h0]⟩
  · exact ⟨_, _, rfl⟩

/-- Lists of ints, each in memory of its own, list k full of the mark c k. -/
structure Rwi (W : World) (e : TypeId) (vs : List Value) (c : Nat → Int) : Prop where
  own : ∀ (i : Nat) (v : Value), vs[i]? = some v → ∃ l : List Int, W.ownsRow 0 e 1 v l.length (l.map (Value.int .i64)) ∧ ∀ z ∈ l, z = c i
  apart : ∀ (i j : Nat) (v u : Value) (g : Nat), vs[i]? = some v → vs[j]? = some u → v.ownBlock = some g → u.ownBlock = some g → i = j
theorem Rwi.chg {S : Nat → Prop} {W W' : World} {e : TypeId} {vs : List Value} {c : Nat → Int} (h : Rwi W e vs c) (k : Chg S W W') (hS : ∀ (i : Nat) (v : Value) (g : Nat), vs[i]? = some v → v.ownBlock = some g → ¬ S g) : Rwi W' e vs c :=
  ⟨fun i v hi => by obtain ⟨l, h1, h2⟩ := h.own i v hi; exact ⟨l, k.own h1 fun g hv => hS i v g hi hv, h2⟩, h.apart⟩
theorem Rwi.lt {W : World} {e : TypeId} {vs : List Value} {c : Nat → Int} (h : Rwi W e vs c) (i : Nat) (v : Value) (g : Nat) (hi : vs[i]? = some v) (hv : v.ownBlock = some g) : g < W.heap.size := by
  obtain ⟨l, hs, _⟩ := h.own i v hi
  exact (hs.lt g hv).2
theorem last_of {vs : List Value} {x v : Value} {i : Nat} (h : (vs ++ [x])[i]? = some v) : (vs[i]? = some v ∧ i < vs.length) ∨ (i = vs.length ∧ v = x) := by
  by_cases hlt : i < vs.length
  · rw [List.getElem?_append_left hlt] at h; exact .inl ⟨h, hlt⟩
  · rw [List.getElem?_append_right (by omega)] at h
    match hk : i - vs.length, h with
    | 0, h => simp at h; exact .inr ⟨by omega, h.symm⟩
    | n + 1, h => simp at h
/-- A list more, that is none of these. -/
theorem Rwi.push {W : World} {e : TypeId} {vs : List Value} {c : Nat → Int} {x : Value} {l : List Int} (h : Rwi W e vs c) (hx : W.ownsRow 0 e 1 x l.length (l.map (Value.int .i64))) (hl : ∀ z ∈ l, z = c vs.length) (hne : ∀ (i : Nat) (v : Value) (g : Nat), vs[i]? = some v → v.ownBlock = some g → x.ownBlock ≠ some g) : Rwi W e (vs ++ [x]) c := by
  refine ⟨fun i v hi => ?_, fun i j v u g hi hj hv hu => ?_⟩
  · rcases last_of hi with ⟨hi, _⟩ | ⟨rfl, rfl⟩
    · exact h.own i v hi
    · exact ⟨l, hx, hl⟩
  · rcases last_of hi with ⟨hi', _⟩ | ⟨e1, e2⟩ <;> rcases last_of hj with ⟨hj', _⟩ | ⟨e3, e4⟩
    · exact h.apart i j v u g hi' hj' hv hu
    · subst e4; exact absurd hu (hne i v g hi' hv)
    · subst e2; exact absurd hv (hne j u g hj' hu)
    · omega
/-- The last list is another one, in the same place. -/
theorem Rwi.last {W W' : World} {R : Nat → Prop} {e : TypeId} {vs : List Value} {c : Nat → Int} {x y : Value} {l : List Int} (h : Rwi W e (vs ++ [x]) c) (k : Chg R W W') (hR : ∀ (i : Nat) (v : Value) (g : Nat), vs[i]? = some v → v.ownBlock = some g → ¬ R g) (hy : W'.ownsRow 0 e 1 y l.length (l.map (Value.int .i64))) (hl : ∀ z ∈ l, z = c vs.length) (hxy : y.ownBlock = x.ownBlock) : Rwi W' e (vs ++ [y]) c := by
  have key : ∀ i v, vs[i]? = some v → (vs ++ [x])[i]? = some v := fun i v hi => by rw [List.getElem?_append_left (List.getElem?_eq_some_iff.1 hi).1]; exact hi
  have hx : (vs ++ [x])[vs.length]? = some x := by simp
  refine ⟨fun i v hi => ?_, fun i j v u g hi hj hv hu => ?_⟩
  · rcases last_of hi with ⟨hi, hlt⟩ | ⟨rfl, rfl⟩
    · obtain ⟨l0, h1, h2⟩ := h.own i v (key i v hi)
      exact ⟨l0, k.own h1 fun g hv => hR i v g hi hv, h2⟩
    · exact ⟨l, hy, hl⟩
  · rcases last_of hi with ⟨hi', _⟩ | ⟨e1, e2⟩ <;> rcases last_of hj with ⟨hj', _⟩ | ⟨e3, e4⟩
    · exact h.apart i j v u g (key i v hi') (key j u hj') hv hu
    · subst e4; rw [hxy] at hu; have := h.apart i vs.length v x g (key i v hi') hx hv hu; have := (List.getElem?_eq_some_iff.1 hi').1; omega
    · subst e2; rw [hxy] at hv; have := h.apart j vs.length u x g (key j u hj') hx hu hv; have := (List.getElem?_eq_some_iff.1 hj').1; omega
    · omega
theorem Rwi.ne_last {W : World} {e : TypeId} {vs : List Value} {c : Nat → Int} {x : Value} (h : Rwi W e (vs ++ [x]) c) (i : Nat) (v : Value) (g : Nat) (hi : vs[i]? = some v) (hv : v.ownBlock = some g) : x.ownBlock ≠ some g := by
  intro e
  have hlt := (List.getElem?_eq_some_iff.1 hi).1
  have := h.apart i vs.length v x g (by rw [List.getElem?_append_left hlt]; exact hi) (by simp) hv e
  omega
/-- A list that is being filled with a mark: the first k are it. -/
def Fil (W : World) (e : TypeId) (v : Value) (n k : Nat) (c : Int) : Prop :=
  ∃ l : List Int, W.ownsRow 0 e 1 v n (l.map (Value.int .i64)) ∧ l.length = n ∧ ∀ j x, j < k → l[j]? = some x → x = c
theorem Fil.start {W : World} {e : TypeId} {v : Value} {n : Nat} {l : List Int} (h : W.ownsRow 0 e 1 v n (l.map (Value.int .i64))) (hl : l.length = n) (c : Int) : Fil W e v n 0 c := ⟨l, h, hl, fun j x hj => by omega⟩
theorem Fil.lo {W : World} {e : TypeId} {ao : Option Addr} {n k cap : Nat} {c : Int} (h : Fil W e (.slice ao n cap) n k c) {j : Nat} (hj : j < n) : ∃ g, ao = some ⟨g, 0, none⟩ ∧ (∃ x, W.cell? ⟨g, j, none⟩ = some (.int .i64 x)) ∧ W.frozen? ⟨g, j, none⟩ = false := by
  obtain ⟨l, h1, h2, _⟩ := h
  rcases h1.2 with ⟨_, h0⟩ | ⟨g, cap', cur, e1, _⟩
  · omega
  · injection e1 with e1 e2 e3
    subst e1
    refine ⟨g, rfl, ⟨l[j]'(by omega), ?_⟩, h1.frozenAt j⟩
    rw [h1.cellAt j (by omega), List.getElem?_map, List.getElem?_eq_getElem (by omega)]
    rfl
theorem Fil.put {W : World} {e : TypeId} {n k cap g : Nat} {c : Int} (h : Fil W e (.slice (some ⟨g, 0, none⟩) n cap) n k c) (hk : k < n) : Fil (W.setCell ⟨g, k, none⟩ (.int .i64 c)) e (.slice (some ⟨g, 0, none⟩) n cap) n (k + 1) c ∧ Chg (fun j => j = g) W (W.setCell ⟨g, k, none⟩ (.int .i64 c)) := by
  obtain ⟨l, h1, h2, h3⟩ := h
  obtain ⟨h4, h5⟩ := h1.stored k (.int .i64 c)
  rw [show (l.map (Value.int .i64)).set k (.int .i64 c) = (l.set k c).map (Value.int .i64) by rw [List.map_set]] at h4
  refine ⟨⟨l.set k c, h4, by simpa using h2, fun j x hj hx => ?_⟩, (Chg.of_grown h5).mono fun j _ e => (Option.some.inj e).symm⟩
  rw [List.getElem?_set] at hx
  split at hx
  · split at hx
    · simpa using hx.symm
    · cases hx
  · exact h3 j x (by omega) hx
theorem Fil.done {W : World} {e : TypeId} {v : Value} {n : Nat} {c : Int} (h : Fil W e v n n c) : ∃ l : List Int, W.ownsRow 0 e 1 v l.length (l.map (Value.int .i64)) ∧ l.length = n ∧ ∀ z ∈ l, z = c := by
  obtain ⟨l, h1, h2, h3⟩ := h
  refine ⟨l, by rw [h2]; exact h1, h2, fun z hz => ?_⟩
  obtain ⟨j, hj⟩ := List.mem_iff_getElem?.1 hz
  exact h3 j z (by have := (List.getElem?_eq_some_iff.1 hj).1; omega) hj
theorem Fil.chg {W W' : World} {S : Nat → Prop} {e : TypeId} {v : Value} {n k : Nat} {c : Int} (h : Fil W e v n k c) (hc : Chg S W W') (hS : ∀ g, v.ownBlock = some g → ¬ S g) : Fil W' e v n k c := by
  obtain ⟨l, h1, h2⟩ := h
  exact ⟨l, hc.own h1 hS, h2⟩
theorem Fil.nm {W : World} {e : TypeId} {v : Value} {n k : Nat} {c : Int} (h : Fil W e v n k c) : n ≤ 9223372036854775807 := by
  obtain ⟨l, h1, h2, _⟩ := h
  rcases h1.2 with ⟨_, h0⟩ | ⟨g, cap', cur, e1, _, _, h3, h4, _⟩
  · omega
  · unfold maxLen at h4; omega
def Gr (W : World) (e : TypeId) (v : Value) (n : Nat) (c : Int) : Prop := ∃ l : List Int, W.ownsRow 0 e 1 v n (l.map (Value.int .i64)) ∧ l.length = n ∧ ∀ z ∈ l, z = c
theorem Gr.chg {W W' : World} {S : Nat → Prop} {e : TypeId} {v : Value} {n : Nat} {c : Int} (h : Gr W e v n c) (hc : Chg S W W') (hS : ∀ g, v.ownBlock = some g → ¬ S g) : Gr W' e v n c := by
  obtain ⟨l, h1, h2⟩ := h
  exact ⟨l, hc.own h1 hS, h2⟩
theorem Gr.lo {W : World} {e : TypeId} {xo : Option Addr} {k cap : Nat} {c : Int} (h : Gr W e (.slice xo k cap) k c) (hk : k < cap) : ∃ g, xo = some ⟨g, 0, none⟩ := by
  obtain ⟨l, h1, _⟩ := h
  rcases h1.2 with ⟨e1, _⟩ | ⟨g, cap', cur, e1, _⟩
  · injection e1 with _ _ e1; omega
  · injection e1 with e1; exact ⟨g, e1⟩
theorem Gr.push {t e : TypeId} (hund : Try.prog.underlying t = some (.slice e)) (hinfo : (Try.prog.info? e).map (fun i => (i.zero, i.size, i.bytes)) = some (some (.int .i64 0), 1, 8)) {ops : Array Oper} {rest : List Oper} {o : Oper} {a : Act} {Q : Exit → Act → World → Prop} {w : World} (hgd : o.guard = none) (s x : Operand)
    (ho : o.op = .call { callee := .builtin .append, args := #[s, x], argTypes := #[t, t] }) {g k cap : Nat} {c : Int} (h : Gr w e (.slice (some ⟨g, 0, none⟩) k cap) k c) (hs : a.eval s = .slice (some ⟨g, 0, none⟩) k cap) {n : Nat} (hx : a.eval x = .slice (some ⟨n, 0, none⟩) 1 1) (hc : w.cell? ⟨n, 0, none⟩ = some (.int .i64 c)) (hk : k < cap)
    (hK : ∀ w', Gr w' e (.slice (some ⟨g, 0, none⟩) (k + 1) cap) (k + 1) c → w.grownBy w' (some g) → wpList Try.prog ops Q rest (a.put o.dst (.slice (some ⟨g, 0, none⟩) (k + 1) cap)) w') : wpList Try.prog ops Q (o :: rest) a w := by
  obtain ⟨l, h1, h2, h3⟩ := h
  obtain ⟨i0, hi, hz0, hz1, hz2⟩ := info_parts hinfo
  refine wpList_append_own_spare w hgd s x t ho 0 e i0 1 hund hi hz1 g k cap _ hs h1 ⟨n, 0, none⟩ 1 1 [.int .i64 c] hx rfl ?_ ?_ (by omega) ?_
  · intro j u hj
    match j, hj with
    | 0, hj => simp at hj; subst hj; simpa [Addr.add] using hc
  · intro u hu; simp at hu; subst hu; rfl
  · intro w' h4 h5
    refine hK w' ⟨l ++ [c], by rw [List.map_append]; exact h4, by simp [h2], fun z hz => ?_⟩ h5
    rcases List.mem_append.1 hz with hz | hz
    · exact h3 z hz
    · simpa using hz
theorem own_lo0 {W : World} {e : TypeId} {n c : Nat} {lo : Option Addr} {xs : List Value} (h : W.ownsRow 0 e 1 (.slice lo n c) n xs) (hn : n ≠ 0) : ∃ g, lo = some ⟨g, 0, none⟩ := by
  rcases h.2 with ⟨_, h0⟩ | ⟨g, cap, cur, e, _⟩
  · exact absurd h0 hn
  · injection e with e1; exact ⟨g, e1⟩
/-- A box that is no list is as it was. -/
theorem box_kept {W V : World} {e t : TypeId} {v : Value} {n g : Nat} {xs : List Value} {cs : Array Value} (hc : Chg (fun k => v.ownBlock = some k) W V) (ho : W.ownsRow 0 e 1 v n xs) (h : W.heap[g]? = some (.cells cs t (0, 0))) (ht : t ≠ e) : V.heap[g]? = some (.cells cs t (0, 0)) :=
  hc.at h fun e' => by obtain ⟨cs', h'⟩ := ownB ho e'; exact ht (kindB h h')
theorem Fil.own {W : World} {e : TypeId} {v : Value} {n k : Nat} {c : Int} (h : Fil W e v n k c) : ∃ xs, W.ownsRow 0 e 1 v n xs := by
  obtain ⟨l, h1, _⟩ := h; exact ⟨_, h1⟩
theorem kept_other {W V : World} {e e' : TypeId} {v v' : Value} {n n' : Nat} {xs xs' : List Value} (hc : Chg (fun k => v.ownBlock = some k) W V) (ho : W.ownsRow 0 e 1 v n xs) (ho' : W.ownsRow 0 e' 1 v' n' xs') (hne : e' ≠ e) : ∀ g, v'.ownBlock = some g → ¬ (v.ownBlock = some g) := by
  intro g hg e1
  obtain ⟨cs, h1⟩ := ownB ho e1
  obtain ⟨cs', h2⟩ := ownB ho' hg
  exact hne (kindB h2 h1)

end Go.Proofs.Ytdeglhifemmknaa
