
/- The law's calls that hand in one list: what becomes of the hand; the call of May. -/

import Derived.Test.YtndjlbedfccnjaaWork

import Derived.Test.YtndjlbedfccnjaaWalks

import Derived.Test.YtndjlbedfccnjaaRefs2

import Derived.Test.YtndjlbedfccnjaaRefs3

import Derived.Test.YtndjlbedfccnjaaRefs4

import Derived.Deep.RegionWith

namespace Go.Proofs.Ytndjlbedfccnjaa

open Go.RowKit
attribute [local go_sem] Oper.semAt_some
set_option linter.unusedVariables false

theorem Rd.lowP {w w' : World} {B : Nat} {ao : Option Addr} {n : Nat} {zs : List Int} (h : Rd w ao n zs) (hlb : ∀ b off, ao = some ⟨b, off, none⟩ → b < B) (hb : Below B w w') : Rd w' ao n zs := by
  refine ⟨h.len, h.room, h.num, fun hn => ?_⟩
  obtain ⟨b, off, e, hb', hc⟩ := h.cells hn
  exact ⟨b, off, e, Nat.lt_of_lt_of_le hb' hb.size, fun k hk => (World.cell?_of_block (a := ⟨b, off + k, none⟩) (hb.block b (hlb b off e))).trans (hc k hk)⟩

/-- What a call leaves of the hand that it was handed in. -/
structure Played (w w' : World) (B hb ho : Nat) (go : Option Addr) (g c : Nat) : Prop where
  hd : Hd w' B ⟨hb, ho, none⟩ (some ⟨g, 0, none⟩) c
  fresh : go = some ⟨g, 0, none⟩ ∨ w.heap.size ≤ g
  keep : Keep w w' (fun b => b = hb ∨ some b = (Value.slice go 0 0).ownBlock)
  others : ∀ o, o ≠ ho → w'.cell? ⟨hb, o, none⟩ = w.cell? ⟨hb, o, none⟩ ∧ w'.frozen? ⟨hb, o, none⟩ = w.frozen? ⟨hb, o, none⟩

theorem Hd.out {w : World} {B hb ho : Nat} {go : Option Addr} {gn : Nat} (h : Hd w B ⟨hb, ho, none⟩ go gn) : ∀ j, (j = hb ∨ some j = (Value.slice go 0 0).ownBlock) → B ≤ j ∧ j < w.heap.size := by
  rintro j (rfl | e)
  · exact ⟨h.base, World.block_lt_of_cell? w _ h.cell⟩
  · rcases h.row with ⟨rfl, _⟩ | ⟨g, rfl, h1, _, h3⟩
    · cases e
    · cases e; exact ⟨h1, h3.lt⟩

theorem Hd.kept {w w' : World} {B hb ho : Nat} {go : Option Addr} {gn : Nat} {S : Nat → Prop} (h : Hd w B ⟨hb, ho, none⟩ go gn) (k : Keep w w' S) (hS : ∀ j, S j → j ≠ hb ∧ some j ≠ (Value.slice go 0 0).ownBlock) : Hd w' B ⟨hb, ho, none⟩ go gn := by
  have hl := (h.out hb (.inl rfl)).2
  have e := k.block hb hl (fun s => (hS hb s).1 rfl)
  refine ⟨(World.cell?_of_block (a := ⟨hb, ho, none⟩) e).trans h.cell, (World.frozen?_of_block (a := ⟨hb, ho, none⟩) e).trans h.frozen, h.base, ?_⟩
  rcases h.row with ⟨rfl, h2⟩ | ⟨g, rfl, h1, h2, h3⟩
  · exact .inl ⟨rfl, h2⟩
  · obtain ⟨cur, c1, c2, c3⟩ := h3.blk
    exact .inr ⟨g, rfl, h1, h2, ⟨⟨cur, (k.block g h3.lt (fun s => (hS g s).2 rfl)).trans c1, c2, c3⟩, h3.le⟩⟩

/-- Filled, looked at, and between the two only new memory: what is left. -/
theorem played_of {w w1 w2 w3 w4 w5 : World} {B hb ho : Nat} {go : Option Addr} {gn n : Nat} {zs : List Int} {g c : Nat} (hh : Hd w B ⟨hb, ho, none⟩ go gn) (k1 : w.grownBy w1 none) (h2 : Handed w1 w2 B hb ho go n zs g c) (k3 : w2.grownBy w3 none) (hp : PRow w4 g c c (fun _ => -99)) (k4 : w3.grownBy w4 (some g)) (k5 : w4.grownBy w5 none) : Played w w5 B hb ho go g c := by
  have hl := (hh.out hb (.inl rfl)).2
  have e1 : w1.heap[hb]? = w.heap[hb]? := k1.block hb hl (by simp)
  have s1 := k1.size
  have s2 := h2.keep.size
  have s3 := k3.size
  have s4 := k4.size
  have e3 : w3.heap[hb]? = w2.heap[hb]? := k3.block hb (by omega) (by simp)
  have e4 : w4.heap[hb]? = w3.heap[hb]? := k4.block hb (by omega) (some_ne (Ne.symm h2.ne))
  have e5 : w5.heap[hb]? = w2.heap[hb]? := (k5.block hb (by omega) (by simp)).trans (e4.trans e3)
  have kk : Keep w w5 (fun b => b = hb ∨ some b = (Value.slice go 0 0).ownBlock) := by
    have a1 : Keep w w1 (fun b => b = hb ∨ some b = (Value.slice go 0 0).ownBlock) := widen (Keep.of k1) (fun j e => by cases e)
    have a2 := a1.trans h2.keep (fun j _ e => e)
    have a3 := a2.trans (Keep.of k3) (fun j _ e => by cases e)
    have a4 := a3.trans (Keep.of k4) (fun j hj e => by
      cases e
      rcases h2.fresh with e | e
      · subst e; exact .inr rfl
      · omega)
    exact a4.trans (Keep.of k5) (fun j _ e => by cases e)
  refine ⟨⟨(World.cell?_of_block (a := ⟨hb, ho, none⟩) e5).trans h2.cell, (World.frozen?_of_block (a := ⟨hb, ho, none⟩) e5).trans h2.frozen, hh.base, .inr ⟨g, rfl, h2.base, h2.ne, ?_⟩⟩, ?_, kk, fun o ho' => ?_⟩
  · obtain ⟨cur, c1, c2, c3⟩ := (hp.kept k5 (by simp)).blk
    exact ⟨⟨cur, c1, c2, fun k hk => by omega⟩, hp.le⟩
  · rcases h2.fresh with e | e
    · exact .inl e
    · exact .inr (by omega)
  · obtain ⟨o1, o2⟩ := h2.others o ho'
    exact ⟨((World.cell?_of_block (a := ⟨hb, o, none⟩) e5).trans o1).trans (World.cell?_of_block (a := ⟨hb, o, none⟩) e1), ((World.frozen?_of_block (a := ⟨hb, o, none⟩) e5).trans o2).trans (World.frozen?_of_block (a := ⟨hb, o, none⟩) e1)⟩

/-- Between filling and looking. -/
theorem mid {w1 w2 w3 : World} {B hb ho : Nat} {go : Option Addr} {gn n : Nat} {zs : List Int} {g c : Nat} (hh : Hd w1 B ⟨hb, ho, none⟩ go gn) (hB : B ≤ w1.heap.size) (h2 : Handed w1 w2 B hb ho go n zs g c) (k3 : w2.grownBy w3 none) :
    PRow w3 g c c (marked zs n) ∧ w3.cell? ⟨hb, ho, none⟩ = some (.slice (some ⟨g, 0, none⟩) c c) ∧ Below B w1 w3 ∧ ∀ p, p < w1.heap.size → p ≠ hb → some p ≠ (Value.slice go 0 0).ownBlock → w3.heap[p]? = w1.heap[p]? ∧ p ≠ g := by
  have s2 := h2.keep.size
  have hl := (hh.out hb (.inl rfl)).2
  refine ⟨h2.row.kept k3 (by simp), (World.cell?_of_block (a := ⟨hb, ho, none⟩) (k3.block hb (by omega) (by simp))).trans h2.cell, ?_, fun p hp h3 h4 => ⟨(k3.block p (by omega) (by simp)).trans (h2.keep.block p hp (by rintro (e | e); exact h3 e; exact h4 e)), ?_⟩⟩
  · exact (h2.keep.trans (Keep.of k3) (fun j _ e => by cases e)).below hB (fun j hj e => by have := (hh.out j e).1; omega)
  · rintro rfl
    rcases h2.fresh with e | e
    · subst e; exact h4 rfl
    · omega
end Go.Proofs.Ytndjlbedfccnjaa
