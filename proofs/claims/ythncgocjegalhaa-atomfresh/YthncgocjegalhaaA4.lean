
/- Lists of a call's own, of either kind of number; copies of lists by package slices. -/

import Derived.Test.YthncgocjegalhaaA3

import Derived.Laws.AppendOwnNone

namespace Go.Proofs.Ythncgocjegalhaa

open Go.RowKit

set_option linter.unusedVariables false

/-- Slices of type s hold numbers of type e, each one cell. -/
structure Ty (s e : TypeId) : Prop where
  und : Try.prog.underlying s = some (.slice e)
  info : (Try.prog.info? e).map (fun i => (i.zero, i.size, i.bytes)) = some (some (.int .i64 0), 1, 8)
theorem tyI : Ty 33 3 := ⟨by kernel_rfl, by kernel_rfl⟩
theorem tyL : Ty 34 2 := ⟨by kernel_rfl, by kernel_rfl⟩

/-- A slice of a call's own. -/
structure Ft (e : TypeId) (w : World) (B : Nat) (ao : Option Addr) (n cap : Nat) (zs : List Int) : Prop where
  rd : Rd w ao n zs
  own : w.ownsRow B e 1 (.slice ao n cap) n (zs.map (Value.int .i64))

theorem Ft.mk' {e : TypeId} {w : World} {B : Nat} {v : Value} {n : Nat} {zs : List Int} (hl : zs.length = n) (hr : n * 8 ≤ 140737488351232) (hn : ∀ k, k < n → -9223372036854775808 ≤ nth zs k ∧ nth zs k ≤ 9223372036854775807)
    (h : w.ownsRow B e 1 v n (zs.map (Value.int .i64))) : ∃ ao cap, v = .slice ao n cap ∧ Ft e w B ao n cap zs := by
  have h' := h
  rcases h.2 with ⟨rfl, h0⟩ | ⟨g, cap, cur, rfl, hb, hg, hnc, hcm, hcs, ht⟩
  · subst h0
    exact ⟨none, 0, rfl, ⟨hl, hr, hn, fun h => by omega⟩, h⟩
  · refine ⟨_, cap, rfl, ⟨hl, hr, hn, fun _ => ⟨g, 0, rfl, (Array.getElem?_eq_some_iff.1 hg).1, fun k hk => ?_⟩⟩, h⟩
    have := h'.cells (g := g) rfl k _ (nth_map (by omega))
    have e : (⟨g, 0, none⟩ : Addr).add k = ⟨g, 0 + k, none⟩ := by cases k <;> simp [Addr.add]
    rwa [e] at this
theorem Ft.nil (e : TypeId) (w : World) (B : Nat) : Ft e w B none 0 0 [] := ⟨Rd.nil w, World.ownsRow_nil _ _ _ _⟩
theorem Ft.mono {e : TypeId} {w : World} {B B' : Nat} {ao : Option Addr} {n cap : Nat} {zs : List Int} (h : Ft e w B ao n cap zs) (hb : B' ≤ B) : Ft e w B' ao n cap zs := by
  refine ⟨h.rd, h.own.1, ?_⟩
  rcases h.own.2 with h0 | ⟨g, c, cur, e, hB, r⟩
  · exact .inl h0
  · exact .inr ⟨g, c, cur, e, Nat.le_trans hb hB, r⟩
theorem Ft.below {e : TypeId} {B B' : Nat} {w w' : World} {ao : Option Addr} {n cap : Nat} {zs : List Int} (h : Ft e w B ao n cap zs) (hb : Below B' w w') (hB : w.heap.size ≤ B') : Ft e w' B ao n cap zs := by
  refine ⟨h.rd.below hb hB, h.own.1, ?_⟩
  rcases h.own.2 with h0 | ⟨g, c, cur, e, hB2, hg, r⟩
  · exact .inl h0
  · exact .inr ⟨g, c, cur, e, hB2, by rw [hb.block g (Nat.lt_of_lt_of_le (Array.getElem?_eq_some_iff.1 hg).1 hB)]; exact hg, r⟩
theorem Ft.sl {e : TypeId} {w : World} {B : Nat} {ao : Option Addr} {n cap : Nat} {zs : List Int} (h : Ft e w B ao n cap zs) : Sl ao n cap := by
  rcases h.own.2 with ⟨e1, h0⟩ | ⟨g, c, cur, e1, hB2, hg, hnc, hcm, r⟩
  · cases e1; exact ⟨fun _ => ⟨rfl, rfl⟩, Nat.le_refl _, by omega⟩
  · cases e1; exact ⟨fun e => (by cases e), hnc, by unfold maxLen at hcm; omega⟩

theorem Rd.keep1 {w w' : World} {row : Option Nat} {ao : Option Addr} {n : Nat} {zs : List Int} (h : Rd w ao n zs) (hg : w.grownBy w' row) (hne : ∀ b off, ao = some ⟨b, off, none⟩ → some b ≠ row) : Rd w' ao n zs := by
  refine ⟨h.len, h.room, h.num, fun h0 => ?_⟩
  obtain ⟨b, off, e, hl, hc⟩ := h.cells h0
  exact ⟨b, off, e, Nat.lt_of_lt_of_le hl hg.size, fun k hk => hg.cell (hc k hk) (hne b off e)⟩
theorem Ft.keep1 {e : TypeId} {w w' : World} {B : Nat} {row : Option Nat} {ao : Option Addr} {n cap : Nat} {zs : List Int} (h : Ft e w B ao n cap zs) (hg : w.grownBy w' row) (hne : ∀ b off, ao = some ⟨b, off, none⟩ → some b ≠ row) : Ft e w' B ao n cap zs := by
  refine ⟨h.rd.keep1 hg hne, h.own.1, ?_⟩
  rcases h.own.2 with h0 | ⟨g, c, cur, e, hB2, hg2, r⟩
  · exact .inl h0
  · exact .inr ⟨g, c, cur, e, hB2, by rw [hg.block g (Array.getElem?_eq_some_iff.1 hg2).1 (by cases e; exact hne g 0 rfl)]; exact hg2, r⟩
/-- Where a row of one's own lies. -/
theorem Ft.at {e : TypeId} {w : World} {B : Nat} {ao : Option Addr} {n cap : Nat} {zs : List Int} (h : Ft e w B ao n cap zs) : ∀ b off, ao = some ⟨b, off, none⟩ → B ≤ b ∧ b < w.heap.size := by
  rintro b off rfl
  rcases h.own.2 with ⟨e, _⟩ | ⟨g, c, cur, e, hB2, hg2, r⟩
  · cases e
  · cases e; exact ⟨hB2, (Array.getElem?_eq_some_iff.1 hg2).1⟩

/-- A box of two cells, and both written. -/
theorem box2 {W : World} {g : Nat} {x y : Value} {t : TypeId} (h : W.heap[g]? = some (.cells #[x, y] t (0, 0))) :
    W.cell? ⟨g, 0, none⟩ = some x ∧ W.cell? ⟨g, 1, none⟩ = some y ∧ W.frozen? ⟨g, 0, none⟩ = false ∧ W.frozen? ⟨g, 1, none⟩ = false :=
  ⟨(cell_of_row W g 0 _ t (0, 0) h).trans rfl, (cell_of_row W g 1 _ t (0, 0) h).trans rfl, frozen_of_row W g 0 _ t h, frozen_of_row W g 1 _ t h⟩
theorem set1 (W : World) (b o : Nat) (v : Value) : W.grownBy (W.setCell ⟨b, o, none⟩ v) (some b) :=
  ⟨rfl, rfl, rfl, by simp, fun k _ hk => heap_setCell_other W ⟨b, o, none⟩ k _ (fun e => hk (by simp [e]))⟩
theorem set2 (W : World) (b o o' : Nat) (v v' : Value) : W.grownBy ((W.setCell ⟨b, o, none⟩ v).setCell ⟨b, o', none⟩ v') (some b) :=
  have h := set1 W b o v
  have k := set1 (W.setCell ⟨b, o, none⟩ v) b o' v'
  ⟨k.os.trans h.os, k.tape.trans h.tape, k.output.trans h.output, Nat.le_trans h.size k.size, fun j hj hne => (k.block j (Nat.lt_of_lt_of_le hj h.size) hne).trans (h.block j hj hne)⟩
/-- What is written in a box of the call's own changes nothing that was there. -/
theorem below_set2 {a W : World} {B b : Nat} (o o' : Nat) (v v' : Value) (h : Below B a W) (hb : B ≤ b) (hs : B ≤ a.heap.size) : Below B a ((W.setCell ⟨b, o, none⟩ v).setCell ⟨b, o', none⟩ v') :=
  have k := set2 W b o o' v v'
  ⟨k.os.trans h.os, k.tape.trans h.tape, k.output.trans h.output, Nat.le_trans h.size k.size, fun j hj => (k.block j (Nat.lt_of_lt_of_le (Nat.lt_of_lt_of_le hj hs) h.size) (fun e => by cases e; omega)).trans (h.block j hj)⟩

/-- A row just laid, of as many as it has room for. -/
theorem ft_new (e : TypeId) (w : World) (zs : List Int) (hl : zs.length ≤ 100) (hn : ∀ k, k < zs.length → -9223372036854775808 ≤ nth zs k ∧ nth zs k ≤ 9223372036854775807) :
    Ft e (w.alloc (.cells (zs.map (Value.int .i64)).toArray e)) w.heap.size (some ⟨w.heap.size, 0, none⟩) zs.length zs.length zs := by
  have hb := allocNew w (.cells (zs.map (Value.int .i64)).toArray e)
  refine ⟨⟨rfl, by omega, hn, fun _ => ⟨w.heap.size, 0, rfl, by simp, fun k hk => ?_⟩⟩, by simp, .inr ⟨w.heap.size, zs.length, _, rfl, Nat.le_refl _, hb, Nat.le_refl _, by unfold maxLen; omega, by simp, ?_⟩⟩
  · have := cell_of_row (w.alloc (.cells (zs.map (Value.int .i64)).toArray e)) w.heap.size (0 + k) _ e (0, 0) hb
    rw [this, Nat.zero_add]
    simpa using nth_map hk
  · simp [← List.map_take]

end Go.Proofs.Ythncgocjegalhaa
