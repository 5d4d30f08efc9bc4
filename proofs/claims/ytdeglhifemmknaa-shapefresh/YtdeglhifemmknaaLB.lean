
/- Layer 2's book of lists. -/

import Derived.Test.YtdeglhifemmknaaLZ

import Derived.Test.YtdeglhifemmknaaYTr

namespace Go.Proofs.Ytdeglhifemmknaa

open Go.RowKit

set_option linter.unusedVariables false

theorem box_belowL (w : World) (o : Obj) : Below w.heap.size w (w.alloc o) := (Below.refl _ w).alloc (Nat.le_refl _) o
theorem allocNewL (w : World) (o : Obj) : (w.alloc o).heap[w.heap.size]? = some o := by
  unfold World.alloc
  simp
theorem grownL {w w' : World} (k : Below w.heap.size w w') : w.grownBy w' none := ⟨k.os, k.tape, k.output, k.size, fun j hj _ => k.block j hj⟩
theorem set1L (W : World) (b o : Nat) (v : Value) : W.grownBy (W.setCell ⟨b, o, none⟩ v) (some b) :=
  ⟨rfl, rfl, rfl, by simp, fun k _ hk => heap_setCell_other W ⟨b, o, none⟩ k _ (fun e => hk (by simp [e]))⟩
theorem set_otherL (W : World) (b o o' : Nat) (v : Value) (h : o' ≠ o) : (W.setCell ⟨b, o, none⟩ v).cell? ⟨b, o', none⟩ = W.cell? ⟨b, o', none⟩ :=
  World.cell?_setCell_other W ⟨b, o, none⟩ ⟨b, o', none⟩ v (fun e => h (by cases e; rfl))

/-- How far a list is grown. -/
def frQ (n c : Nat) : Nat := min c (n + 70000)
theorem frQ_cap (n c : Nat) : frQ n c ≤ c := by unfold frQ; omega
theorem roomQ_any (n c : Nat) (w : World) (h : n ≤ 140737488351232) : Calls Try.prog 25 #[.int .i64 (n : Int), .int .i64 (c : Int)] w fun e w' => e = .returned (.int .i64 (frQ n c : Int)) ∧ w' = w := by
  have hw : IntKind.i64.wrap ((n : Int) + 70000) = (n : Int) + 70000 := by rw [IntKind.wrap_i64]; omega
  by_cases hlt : (n : Int) + 70000 < (c : Int)
  · rw [show (frQ n c : Int) = (n : Int) + 70000 by unfold frQ; omega]
    go_enter Try.func25, Try.ntmps25
    go_wp2
    go_ret
    exact ⟨rfl, rfl⟩
  · rw [show (frQ n c : Int) = (c : Int) by unfold frQ; omega]
    go_enter Try.func25, Try.ntmps25
    go_wp2
    go_ret
    exact ⟨rfl, rfl⟩
theorem fullQ_any (bb : Nat) (x n y : Int) (w : World) (hc : w.cell? ⟨bb, 1, none⟩ = some (.int .i64 x)) (hz : w.frozen? ⟨bb, 1, none⟩ = false) (hy : wrap64 (wrap64 (x + 400) + n) = y) :
    Calls Try.prog 10 #[.pointer (some ⟨bb, 0, none⟩), .int .i64 n] w fun e w' => e = .returned (.bool (decide (33554432 < y))) ∧ w' = w.setCell ⟨bb, 1, none⟩ (.int .i64 y) := by
  have hc1 : (w.setCell ⟨bb, 1, none⟩ (.int .i64 y)).cell? ⟨bb, 1, none⟩ = some (.int .i64 y) := World.cell?_setCell_same' _ _ _ (by rw [hc]; rfl)
  subst hy
  go_enter Try.func10, Try.ntmps10
  go_wp2
  go_ret
  exact ⟨rfl, rfl⟩

/-- The mark of list k. -/
def mQ (k : Nat) : Int := -1 - (k : Int)
/-- A book: m lists, each full of its mark; its own memory is within S. -/
structure Bq (W : World) (S : Nat → Prop) (bb : Nat) (so : Option Addr) (m sc : Nat) (sz : Int) (vs : List Value) : Prop where
  c0 : W.cell? ⟨bb, 0, none⟩ = some (.slice so m sc)
  c1 : W.cell? ⟨bb, 1, none⟩ = some (.int .i64 sz)
  f0 : W.frozen? ⟨bb, 0, none⟩ = false
  f1 : W.frozen? ⟨bb, 1, none⟩ = false
  vl : vs.length = m
  shp : W.ownsRow 0 28 1 (.slice so m sc) m vs
  rs : Rwi W 3 vs mQ
  fb : S bb
  fs : ∀ g, (Value.slice so m sc).ownBlock = some g → S g ∧ g ≠ bb
  fv : ∀ (i : Nat) (v : Value) (g : Nat), vs[i]? = some v → v.ownBlock = some g → S g ∧ g ≠ bb
section
variable {W W' : World} {S S' R : Nat → Prop} {bb : Nat} {so : Option Addr} {m sc : Nat} {sz : Int} {vs : List Value}

theorem Bq.lt (h : Bq W S bb so m sc sz vs) : bb < W.heap.size := World.block_lt_of_cell? W _ h.c0
theorem Bq.chg (h : Bq W S bb so m sc sz vs) (k : Chg R W W') (hR : ∀ g, S g → ¬ R g) : Bq W' S bb so m sc sz vs := by
  have e := k.block bb h.lt (hR _ h.fb)
  exact ⟨(World.cell?_of_block (a := ⟨bb, 0, none⟩) e).trans h.c0, (World.cell?_of_block (a := ⟨bb, 1, none⟩) e).trans h.c1, (World.frozen?_of_block (a := ⟨bb, 0, none⟩) e).trans h.f0, (World.frozen?_of_block (a := ⟨bb, 1, none⟩) e).trans h.f1, h.vl, k.own h.shp fun g hg => hR g (h.fs g hg).1, h.rs.chg k fun i v g hi hv => hR g (h.fv i v g hi hv).1, h.fb, h.fs, h.fv⟩
theorem Bq.below (h : Bq W S bb so m sc sz vs) (k : Below W.heap.size W W') : Bq W' S bb so m sc sz vs :=
  h.chg (R := fun _ => False) (Chg.of_below k (Nat.le_refl _) _) fun _ _ e => e
theorem Bq.mono (h : Bq W S bb so m sc sz vs) (hS : ∀ g, S g → S' g) : Bq W S' bb so m sc sz vs :=
  ⟨h.c0, h.c1, h.f0, h.f1, h.vl, h.shp, h.rs, hS _ h.fb, fun g hg => ⟨hS g (h.fs g hg).1, (h.fs g hg).2⟩, fun i v g hi hv => ⟨hS g (h.fv i v g hi hv).1, (h.fv i v g hi hv).2⟩⟩
/-- The foot lies in what is there. -/
theorem Bq.trim (h : Bq W S bb so m sc sz vs) : Bq W (fun g => S g ∧ g < W.heap.size) bb so m sc sz vs :=
  ⟨h.c0, h.c1, h.f0, h.f1, h.vl, h.shp, h.rs, ⟨h.fb, h.lt⟩, fun g hg => ⟨⟨(h.fs g hg).1, (h.shp.lt g hg).2⟩, (h.fs g hg).2⟩, fun i v g hi hv => ⟨⟨(h.fv i v g hi hv).1, h.rs.lt i v g hi hv⟩, (h.fv i v g hi hv).2⟩⟩
/-- How much is kept is written anew. -/
theorem Bq.much (h : Bq W S bb so m sc sz vs) (y : Int) : Bq (W.setCell ⟨bb, 1, none⟩ (.int .i64 y)) S bb so m sc y vs ∧ Chg (fun g => g = bb) W (W.setCell ⟨bb, 1, none⟩ (.int .i64 y)) := by
  have k : Chg (fun g => g = bb) W (W.setCell ⟨bb, 1, none⟩ (.int .i64 y)) := (Chg.of_grown (set1L W bb 1 _)).mono fun g _ e => (Option.some.inj e).symm
  refine ⟨⟨(set_otherL W bb 1 0 _ (by omega)).trans h.c0, World.cell?_setCell_same' _ _ _ (by rw [h.c1]; rfl), by rw [World.frozen?_setCell]; exact h.f0, by rw [World.frozen?_setCell]; exact h.f1, h.vl, k.own h.shp fun g hg => (h.fs g hg).2, h.rs.chg k fun i v g hi hv => (h.fv i v g hi hv).2, h.fb, h.fs, h.fv⟩, k⟩
/-- A list more. -/
theorem Bq.push {A W9 : World} {x v' : Value} {l : List Int} (h : Bq W S bb so m sc sz vs) (hx : W.ownsRow 0 3 1 x l.length (l.map (Value.int .i64))) (hl : ∀ z ∈ l, z = mQ m) (hne : ∀ g, x.ownBlock = some g → ¬ S g) (bA : Below W.heap.size W A)
    (r9 : W9.ownsRow 0 28 1 v' (m + 1) (vs ++ [x])) (g9 : A.grownBy W9 (Value.slice so m sc).ownBlock) (a9 : v'.ownBlock = (Value.slice so m sc).ownBlock ∨ v'.ownBlock = some A.heap.size)
    (hS : ∀ g, S g → S' g) (hN : ∀ g, W.heap.size ≤ g → S' g) (hX : ∀ g, x.ownBlock = some g → S' g) :
    ∃ so' sc', v' = .slice so' (m + 1) sc' ∧ Bq (W9.setCell ⟨bb, 0, none⟩ v') S' bb so' (m + 1) sc' sz (vs ++ [x]) ∧ Chg (fun g => g = bb ∨ (Value.slice so m sc).ownBlock = some g) W (W9.setCell ⟨bb, 0, none⟩ v') := by
  obtain ⟨so', sc', rfl⟩ := own_len r9
  refine ⟨so', sc', rfl, ?_⟩
  have hA := h.below bA
  have xA := (Chg.of_below bA (Nat.le_refl _) (fun _ => False)).own hx fun _ _ e => e
  have k9 := Chg.of_grown g9
  have e9 : W9.heap[bb]? = A.heap[bb]? := k9.block bb hA.lt fun e => (hA.fs bb e).2 rfl
  have kS := Chg.of_grown (set1L W9 bb 0 (.slice so' (m + 1) sc'))
  have kT : Chg (fun g => (Value.slice so m sc).ownBlock = some g ∨ g = bb) A (W9.setCell ⟨bb, 0, none⟩ (.slice so' (m + 1) sc')) := (k9.mono fun _ _ e => .inl e).trans (kS.mono fun _ _ e => .inr (Option.some.inj e).symm)
  have nt : ∀ {v : Value} {n : Nat} {xs : List Value}, A.ownsRow 0 3 1 v n xs → ∀ g, v.ownBlock = some g → (Value.slice so m sc).ownBlock ≠ some g := by
    intro v n xs ho g hv hh
    obtain ⟨cs, hc⟩ := ownB ho hv
    obtain ⟨cs', hc'⟩ := ownB hA.shp hh
    exact absurd (kindB hc hc') (by decide)
  have xb : ∀ g, x.ownBlock = some g → g ≠ bb := fun g hg e => hne g hg (e ▸ h.fb)
  have rs' : Rwi (W9.setCell ⟨bb, 0, none⟩ (.slice so' (m + 1) sc')) 3 vs mQ := hA.rs.chg kT fun i v g hi hv hh => by
    obtain ⟨l, ho, _⟩ := hA.rs.own i v hi
    exact hh.elim (nt ho g hv) (h.fv i v g hi hv).2
  have x' := kT.own xA fun g hg hh => hh.elim (nt xA g hg) (xb g hg)
  have vb : ∀ g, (Value.slice so' (m + 1) sc').ownBlock = some g → S' g ∧ g ≠ bb := fun g hg => by
    rcases a9 with e | e
    · rw [e] at hg; exact ⟨hS g (h.fs g hg).1, (h.fs g hg).2⟩
    · rw [e] at hg; injection hg with hg; exact ⟨hN g (by rw [← hg]; exact bA.size), by have := hA.lt; omega⟩
  have r10 : (W9.setCell ⟨bb, 0, none⟩ (.slice so' (m + 1) sc')).ownsRow 0 28 1 (.slice so' (m + 1) sc') (m + 1) (vs ++ [x]) := kS.own r9 fun g hv e => (vb g hv).2 (Option.some.inj e).symm
  have ps : Rwi (W9.setCell ⟨bb, 0, none⟩ (.slice so' (m + 1) sc')) 3 (vs ++ [x]) mQ := rs'.push x' (by rw [h.vl]; exact hl) (fun i v g hi hv e => hne g e (h.fv i v g hi hv).1)
  refine ⟨⟨World.cell?_setCell_same' _ _ _ (by rw [World.cell?_of_block (a := ⟨bb, 0, none⟩) e9, hA.c0]; rfl), (set_otherL W9 bb 0 1 _ (by omega)).trans ((World.cell?_of_block (a := ⟨bb, 1, none⟩) e9).trans hA.c1), by rw [World.frozen?_setCell]; exact (World.frozen?_of_block (a := ⟨bb, 0, none⟩) e9).trans hA.f0, by rw [World.frozen?_setCell]; exact (World.frozen?_of_block (a := ⟨bb, 1, none⟩) e9).trans hA.f1, by simp [h.vl], r10, ps, hS _ h.fb, vb, fun i v g hi hv => ?_⟩, ?_⟩
  · rcases last_of hi with ⟨hi, _⟩ | ⟨_, rfl⟩
    · exact ⟨hS g (h.fv i v g hi hv).1, (h.fv i v g hi hv).2⟩
    · exact ⟨hX g hv, xb g hv⟩
  · exact (Chg.of_below bA (Nat.le_refl _) _).trans (kT.mono fun g _ hg => hg.symm)
end

theorem Rwi.put {W W' : World} {R : Nat → Prop} {e : TypeId} {vs : List Value} {c : Nat → Int} {x y : Value} {l : List Int} {i : Nat} (h : Rwi W e vs c) (hi : vs[i]? = some x) (k : Chg R W W') (hR : ∀ (j : Nat) (v : Value) (g : Nat), j ≠ i → vs[j]? = some v → v.ownBlock = some g → ¬ R g) (hy : W'.ownsRow 0 e 1 y l.length (l.map (Value.int .i64))) (hl : ∀ z ∈ l, z = c i) (hxy : y.ownBlock = x.ownBlock) : Rwi W' e (vs.set i y) c := by
  have hil := (List.getElem?_eq_some_iff.1 hi).1
  have at' : ∀ j v, (vs.set i y)[j]? = some v → (j = i ∧ v = y) ∨ (j ≠ i ∧ vs[j]? = some v) := fun j v hj => by
    by_cases e : j = i
    · subst e; rw [List.getElem?_set_self hil] at hj; exact .inl ⟨rfl, (Option.some.inj hj).symm⟩
    · rw [List.getElem?_set_ne (Ne.symm e)] at hj; exact .inr ⟨e, hj⟩
  refine ⟨fun j v hj => ?_, fun j j' v u g hj hj' hv hu => ?_⟩
  · rcases at' j v hj with ⟨rfl, rfl⟩ | ⟨hn, hj⟩
    · exact ⟨l, hy, hl⟩
    · obtain ⟨l0, h1, h2⟩ := h.own j v hj
      exact ⟨l0, k.own h1 fun g hv => hR j v g hn hj hv, h2⟩
  · rcases at' j v hj with ⟨rfl, rfl⟩ | ⟨hn, hj2⟩ <;> rcases at' j' u hj' with ⟨rfl, rfl⟩ | ⟨hn', hj3⟩
    · rfl
    · exact h.apart j j' x u g hi hj3 (hxy ▸ hv) hu
    · exact h.apart j j' v x g hj2 hi hv (hxy ▸ hu)
    · exact h.apart j j' v u g hj2 hj3 hv hu
/-- A list is grown in its place, and written down anew. -/
theorem Bq.regrow {W W' : World} {S : Nat → Prop} {bb gs m sc i : Nat} {sz : Int} {vs : List Value} {x x' : Value} {l : List Int} (h : Bq W S bb (some ⟨gs, 0, none⟩) m sc sz vs) (hi : vs[i]? = some x) (k : Chg (fun g => x.ownBlock = some g) W W') (hx : W'.ownsRow 0 3 1 x' l.length (l.map (Value.int .i64))) (hl : ∀ z ∈ l, z = mQ i) (ex : x'.ownBlock = x.ownBlock) :
    Bq (W'.setCell ⟨gs, i, none⟩ x') S bb (some ⟨gs, 0, none⟩) m sc sz (vs.set i x') ∧ Chg (fun g => g = gs ∨ x.ownBlock = some g) W (W'.setCell ⟨gs, i, none⟩ x') ∧ W'.cell? ⟨bb, 0, none⟩ = some (.slice (some ⟨gs, 0, none⟩) m sc) ∧ (∃ v, W'.cell? ⟨gs, i, none⟩ = some v) ∧ W'.frozen? ⟨gs, i, none⟩ = false := by
  have hil := (List.getElem?_eq_some_iff.1 hi).1
  obtain ⟨lx, ox, _⟩ := h.rs.own i x hi
  have nx : ∀ g, (Value.slice (some ⟨gs, 0, none⟩) m sc).ownBlock = some g → ¬ x.ownBlock = some g := fun g hg hh => by
    obtain ⟨cs, hc⟩ := ownB h.shp hg
    obtain ⟨cs', hc'⟩ := ownB ox hh
    exact absurd (kindB hc hc') (by decide)
  have sp := k.own h.shp nx
  have eb : W'.heap[bb]? = W.heap[bb]? := k.block bb h.lt fun e => (h.fv i x bb hi e).2 rfl
  have rs' : Rwi W' 3 (vs.set i x') mQ := h.rs.put hi k (fun j v g hn hj hv hh => hn (h.rs.apart j i v x g hj hi hv hh)) hx hl ex
  obtain ⟨s1, g1⟩ := sp.stored i x'
  have k1 := Chg.of_grown g1
  have gb : gs ≠ bb := (h.fs gs rfl).2
  obtain ⟨cS, hcS⟩ := ownB sp rfl
  have e1 : (W'.setCell ⟨gs, i, none⟩ x').heap[bb]? = W'.heap[bb]? := k1.block bb (by have := h.lt; have := k.size; omega) (fun e => gb (Option.some.inj e))
  have r1 := rs'.chg k1 fun j v g hj hv => by
    obtain ⟨l0, h0, _⟩ := rs'.own j v hj
    obtain ⟨cs, hc⟩ := ownB h0 hv
    intro hh
    injection hh with hh
    subst hh
    exact absurd (kindB hc hcS) (by decide)
  have fv' : ∀ (j : Nat) (v : Value) (g : Nat), (vs.set i x')[j]? = some v → v.ownBlock = some g → S g ∧ g ≠ bb := fun j v g hj hv => by
    by_cases e : j = i
    · subst e; rw [List.getElem?_set_self hil] at hj; cases hj; exact h.fv j x g hi (ex ▸ hv)
    · rw [List.getElem?_set_ne (Ne.symm e)] at hj; exact h.fv j v g hj hv
  have eb2 := e1.trans eb
  refine ⟨⟨(World.cell?_of_block (a := ⟨bb, 0, none⟩) eb2).trans h.c0, (World.cell?_of_block (a := ⟨bb, 1, none⟩) eb2).trans h.c1, (World.frozen?_of_block (a := ⟨bb, 0, none⟩) eb2).trans h.f0, (World.frozen?_of_block (a := ⟨bb, 1, none⟩) eb2).trans h.f1, by simp [h.vl], s1, r1, h.fb, h.fs, fv'⟩, (k.mono fun g _ hg => .inr hg).trans (k1.mono fun g _ hg => .inl (Option.some.inj hg).symm), (World.cell?_of_block (a := ⟨bb, 0, none⟩) eb).trans h.c0, ⟨x, ?_⟩, sp.frozenAt i⟩
  rw [sp.cellAt i (by have := h.vl; omega)]; exact hi
end Go.Proofs.Ytdeglhifemmknaa
