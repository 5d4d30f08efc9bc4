
/- ShapeFresh: lists of lists, each in a row of its own, that grow. -/

import Derived.Test.YtdeglhifemmknaaLD

import Derived.Test.YtdeglhifemmknaaRefs4

import Derived.Test.YtdeglhifemmknaaBegun

import Derived.Test.YtdeglhifemmknaaJoin

namespace Go.Proofs.Ytdeglhifemmknaa

open Go.RowKit

set_option linter.unusedVariables false

theorem info25L : (Try.prog.info? 28).map (fun i => (i.zero, i.size, i.bytes)) = some (some (.slice none 0 0), 1, 24) := by kernel_rfl

theorem Fr.geL {w : World} {B : Nat} {ao : Option Addr} {n cap : Nat} {zs : List Int} (h : Fr w B ao n cap zs) {g : Nat} (e : (Value.slice ao n cap).ownBlock = some g) : B ≤ g ∧ g < w.heap.size := h.own.lt g e
theorem Fr.chg {S : Nat → Prop} {w w' : World} {B : Nat} {ao : Option Addr} {n cap : Nat} {zs : List Int} (h : Fr w B ao n cap zs) (k : Chg S w w') (hS : ∀ g, (Value.slice ao n cap).ownBlock = some g → ¬ S g) : Fr w' B ao n cap zs := by
  refine ⟨⟨h.rd.len, h.rd.room, h.rd.num, fun h0 => ?_⟩, k.own h.own hS⟩
  obtain ⟨b, off, e, hl, hc⟩ := h.rd.cells h0
  exact ⟨b, off, e, Nat.lt_of_lt_of_le hl k.size, fun j hj => (World.cell?_of_block (a := ⟨b, off + j, none⟩) (k.block b hl (hS b (by rw [e]; rfl)))).trans (hc j hj)⟩

/-- A list of lists, each of its rows the list's own, from block M on. -/
structure Lg (V : World) (M : Nat) (go : Option Addr) (k gc : Nat) (f : Nat → List Int) (gs : List Value) : Prop where
  own : V.ownsRow M 28 1 (.slice go k gc) k gs
  rows : ∀ j, j < k → ∃ a n c, gs[j]? = some (.slice a n c) ∧ Fr V M a n c (f j)
  apart : ∀ (i j : Nat) (v u : Value) (g : Nat), gs[i]? = some v → gs[j]? = some u → v.ownBlock = some g → u.ownBlock = some g → i = j

theorem Lg.len {V : World} {M : Nat} {go : Option Addr} {k gc : Nat} {f : Nat → List Int} {gs : List Value} (h : Lg V M go k gc f gs) : gs.length = k := by have := h.own.1; omega
theorem Lg.nil (V : World) (M : Nat) (f : Nat → List Int) : Lg V M none 0 0 f [] := ⟨World.ownsRow_nil _ _ _ _, fun j hj => by omega, fun i j v u g h => by simp at h⟩
theorem Lg.chg {S : Nat → Prop} {V V' : World} {M : Nat} {go : Option Addr} {k gc : Nat} {f : Nat → List Int} {gs : List Value} (h : Lg V M go k gc f gs) (c : Chg S V V') (hS : ∀ g, S g → g < M ∨ V.heap.size ≤ g) : Lg V' M go k gc f gs := by
  have ns : ∀ g : Nat, M ≤ g → g < V.heap.size → ¬ S g := fun g h1 h2 hs => by rcases hS g hs with h | h <;> omega
  refine ⟨c.own h.own fun g hg => ns g (h.own.lt g hg).1 (h.own.lt g hg).2, fun j hj => ?_, h.apart⟩
  obtain ⟨a, n, cc, h1, h2⟩ := h.rows j hj
  exact ⟨a, n, cc, h1, h2.chg c fun g hg => ns g (h2.geL hg).1 (h2.geL hg).2⟩
theorem Lg.below {V V' : World} {M : Nat} {go : Option Addr} {k gc : Nat} {f : Nat → List Int} {gs : List Value} (h : Lg V M go k gc f gs) (c : Below V.heap.size V V') : Lg V' M go k gc f gs :=
  h.chg (Chg.of_below c (Nat.le_refl _) (fun _ => False)) (fun g e => e.elim)
theorem Lg.mono {V : World} {M M' : Nat} {go : Option Addr} {k gc : Nat} {f : Nat → List Int} {gs : List Value} (h : Lg V M go k gc f gs) (hM : M' ≤ M) : Lg V M' go k gc f gs := by
  refine ⟨⟨h.own.1, ?_⟩, fun j hj => ?_, h.apart⟩
  · rcases h.own.2 with e | ⟨g, c, cur, e, hb, r⟩
    · exact .inl e
    · exact .inr ⟨g, c, cur, e, Nat.le_trans hM hb, r⟩
  · obtain ⟨a, n, c, h1, h2⟩ := h.rows j hj
    exact ⟨a, n, c, h1, h2.mono hM⟩
/-- A list more: it is new. -/
theorem Lg.push {V V1 A W9 : World} {M : Nat} {go go' : Option Addr} {k gc gc' : Nat} {f : Nat → List Int} {gs : List Value} {a : Option Addr} {n c : Nat} (h : Lg V M go k gc f gs) (hM : M ≤ V.heap.size) (b1 : Below V.heap.size V V1) (hx : Fr V1 V.heap.size a n c (f k)) (bA : Below V1.heap.size V1 A)
    (r9 : W9.ownsRow M 28 1 (.slice go' (k + 1) gc') (k + 1) (gs ++ [.slice a n c])) (g9 : A.grownBy W9 (Value.slice go k gc).ownBlock) : Lg W9 M go' (k + 1) gc' f (gs ++ [.slice a n c]) ∧ Below M A W9 := by
  have hA := (h.below b1).below bA
  have xA := hx.below bA (Nat.le_refl _)
  have k9 := Chg.of_grown g9
  have sA : V.heap.size ≤ A.heap.size := Nat.le_trans b1.size bA.size
  have nt : ∀ {v : Value} {n : Nat} {xs : List Value} {B : Nat}, A.ownsRow B 3 1 v n xs → ∀ g, v.ownBlock = some g → ¬ (Value.slice go k gc).ownBlock = some g := by
    intro v n xs B ho g hv hh
    obtain ⟨cs, hc⟩ := ownB ho hv
    obtain ⟨cs', hc'⟩ := ownB hA.own hh
    exact absurd (kindB hc hc') (by decide)
  have hl := h.len
  refine ⟨⟨r9, fun j hj => ?_, fun i j v u g hi hj hv hu => ?_⟩, g9.os, g9.tape, g9.output, g9.size, fun p hp => g9.block p (by omega) (fun e => ?_)⟩
  · by_cases e : j = k
    · subst e
      exact ⟨a, n, c, by rw [← hl]; simp, (xA.chg k9 fun g hg => nt xA.own g hg).mono hM⟩
    · obtain ⟨a', n', c', h1, h2⟩ := hA.rows j (by omega)
      exact ⟨a', n', c', by rw [List.getElem?_append_left (by omega)]; exact h1, h2.chg k9 fun g hg => nt h2.own g hg⟩
  · have old : ∀ (j : Nat) (v : Value) (g : Nat), gs[j]? = some v → v.ownBlock = some g → (Value.slice a n c).ownBlock = some g → False := fun j v g hj hv hx' => by
      obtain ⟨a', n', c', h1, h2⟩ := h.rows j (by have := (List.getElem?_eq_some_iff.1 hj).1; omega)
      rw [hj] at h1
      cases h1
      have := (h2.geL hv).2
      have := (hx.geL hx').1
      omega
    rcases last_of hi with ⟨hi', _⟩ | ⟨e1, e2⟩ <;> rcases last_of hj with ⟨hj', _⟩ | ⟨e3, e4⟩
    · exact h.apart i j v u g hi' hj' hv hu
    · subst e4; exact (old i v g hi' hv hu).elim
    · subst e2; exact (old j u g hj' hu hv).elim
    · omega
  · have := (h.own.lt p e.symm).1
    omega
/-- One list, or two. -/
theorem Lg.one {V : World} {M : Nat} {a : Option Addr} {n c : Nat} {f : Nat → List Int} (hM : M ≤ V.heap.size) (h : Fr V M a n c (f 0)) : Lg (V.alloc (.cells #[.slice a n c] 28)) M (some ⟨V.heap.size, 0, none⟩) 1 1 f [.slice a n c] := by
  refine ⟨World.ownsRow_lit V #[.slice a n c] 1 hM (by decide) rfl, fun j hj => ?_, fun i j v u g hi hj hv hu => ?_⟩
  · obtain rfl : j = 0 := by omega
    exact ⟨a, n, c, rfl, h.below (box_belowL V _) (Nat.le_refl _)⟩
  · have h1 := (List.getElem?_eq_some_iff.1 hi).1
    have h2 := (List.getElem?_eq_some_iff.1 hj).1
    simp at h1 h2
    omega
theorem Lg.two {V : World} {M : Nat} {a a' : Option Addr} {n c n' c' : Nat} {f : Nat → List Int} (hM : M ≤ V.heap.size) (h : Fr V M a n c (f 0)) (h' : Fr V M a' n' c' (f 1)) (hne : Go.Proofs.Ytdeglhifemmknaa.apart a a') : Lg (V.alloc (.cells #[.slice a n c, .slice a' n' c'] 28)) M (some ⟨V.heap.size, 0, none⟩) 2 2 f [.slice a n c, .slice a' n' c'] := by
  have no : ∀ g, (Value.slice a n c).ownBlock = some g → (Value.slice a' n' c').ownBlock = some g → False := fun g e e' => by
    cases a with
    | none => cases e
    | some x =>
      cases a' with
      | none => cases e'
      | some y =>
        have e1 : x.block = g := Option.some.inj e
        have e2 : y.block = g := Option.some.inj e'
        exact hne x y rfl rfl (e1.trans e2.symm)
  refine ⟨World.ownsRow_lit V #[.slice a n c, .slice a' n' c'] 2 hM (by decide) rfl, fun j hj => ?_, fun i j v u g hi hj hv hu => ?_⟩
  · by_cases e : j = 0
    · subst e; exact ⟨a, n, c, rfl, h.below (box_belowL V _) (Nat.le_refl _)⟩
    · obtain rfl : j = 1 := by omega
      exact ⟨a', n', c', rfl, h'.below (box_belowL V _) (Nat.le_refl _)⟩
  · have h1 := (List.getElem?_eq_some_iff.1 hi).1
    have h2 := (List.getElem?_eq_some_iff.1 hj).1
    simp at h1 h2
    by_cases e : i = 0
    · by_cases e' : j = 0
      · omega
      · obtain rfl : j = 1 := by omega
        subst e
        cases hi; cases hj
        exact (no g hv hu).elim
    · obtain rfl : i = 1 := by omega
      by_cases e' : j = 0
      · subst e'
        cases hi; cases hj
        exact (no g hu hv).elim
      · omega
theorem Lg.rs {V : World} {M : Nat} {go : Option Addr} {k gc : Nat} {zss : List (List Int)} {gs : List Value} (h : Lg V M go k gc (row zss) gs) (hl : zss.length = k) (hr : k * 24 ≤ 140737488355328) : Rs V go k zss := by
  refine ⟨hl, hr, fun h0 => ?_⟩
  have ho := h.own
  rcases ho.2 with ⟨_, e⟩ | ⟨g, c, cur, e, hb, hg, r⟩
  · omega
  · cases e
    refine ⟨g, 0, rfl, (Array.getElem?_eq_some_iff.1 hg).1, fun j hj => ?_⟩
    obtain ⟨a, n, c, h1, h2⟩ := h.rows j hj
    exact ⟨a, n, c, by rw [Nat.zero_add, ho.cellAt j (by omega)]; exact h1, h2.rd, h2.sl⟩
/-- What a call answers, and what the document says: both lists of lists are new. -/
structure Ans (w W : World) (lo mo : Option Addr) (n lc mc : Nat) (f : Nat → List Int) (gs ms : List Value) : Prop where
  got : Lg W w.heap.size lo n lc f gs
  want : Lg W w.heap.size mo n mc f ms
  bel : Below w.heap.size w W
  small : n ≤ 40
theorem Lg.lsq {V : World} {M : Nat} {go : Option Addr} {k gc : Nat} {f : Nat → List Int} {gs : List Value} (h : Lg V M go k gc f gs) (hk : k ≤ 1000000000000) : ∃ qa qn qc, (∀ i, i < k → gs[i]? = some (.slice (qa i) (qn i) (qc i))) ∧ Lsq V (fun g => M ≤ g ∧ g < V.heap.size ∧ ∃ cs, V.heap[g]? = some (.cells cs 3 (0, 0))) go k qa qn qc := by
  have hx : ∀ i, ∃ x : Option Addr × Nat × Nat, i < k → gs[i]? = some (.slice x.1 x.2.1 x.2.2) ∧ Fr V M x.1 x.2.1 x.2.2 (f i) := fun i => by
    by_cases hi : i < k
    · obtain ⟨a, n, c, h1, h2⟩ := h.rows i hi
      exact ⟨(a, n, c), fun _ => ⟨h1, h2⟩⟩
    · exact ⟨(none, 0, 0), fun hh => absurd hh hi⟩
  obtain ⟨q, hq⟩ := Classical.axiomOfChoice hx
  refine ⟨fun i => (q i).1, fun i => (q i).2.1, fun i => (q i).2.2, fun i hi => (hq i hi).1, fun h0 => ?_, fun i hi => ?_, fun i g hi hg => ?_, fun i j g hi hj hg hg' => h.apart i j _ _ g (hq i hi).1 (hq j hj).1 hg hg', hk⟩
  · obtain ⟨b, hb⟩ : ∃ b, go = some ⟨b, 0, none⟩ := by
      rcases h.own.2 with ⟨_, e⟩ | ⟨g, c, cur, e, _⟩
      · omega
      · cases e; exact ⟨g, rfl⟩
    have ho := h.own
    subst hb
    obtain ⟨cs, hc⟩ := ownB ho rfl
    refine ⟨b, 0, rfl, (Array.getElem?_eq_some_iff.1 hc).1, fun ⟨_, _, cs', hc'⟩ => absurd (kindB hc hc') (by decide), fun i hi => ?_⟩
    rw [Nat.zero_add, ho.cellAt i (by omega)]
    exact (hq i hi).1
  · have F := (hq i hi).2
    exact ⟨f i, (F.mono (Nat.zero_le _)).own, F.rd.len, by have := F.rd.room; omega⟩
  · have F := (hq i hi).2
    have := F.geL hg
    exact ⟨this.1, this.2, ownB F.own hg⟩
end Go.Proofs.Ytdeglhifemmknaa
