
/- ShapeAll: all hands of the law: places, each with a row of its own, apart from all others. -/

import Derived.Test.YtndjlbedfccnjaaQB

namespace Go.Proofs.Ytndjlbedfccnjaa

open Go.RowKit

set_option linter.unusedVariables false

/-- Hands at places: each with a row of its own, apart from all others and from the blocks in which hands lie. -/
structure Pl (W : World) (B : Nat) (S : Nat → Nat → Prop) : Prop where
  hd : ∀ b o, S b o → ∃ go gn, Hd W B ⟨b, o, none⟩ go gn
  apart : ∀ b o b' o' g gn gn', S b o → S b' o' → W.cell? ⟨b, o, none⟩ = some (.slice (some ⟨g, 0, none⟩) gn gn) → W.cell? ⟨b', o', none⟩ = some (.slice (some ⟨g, 0, none⟩) gn' gn') → b = b' ∧ o = o'
  off : ∀ b o b' o' g gn, S b o → S b' o' → W.cell? ⟨b, o, none⟩ = some (.slice (some ⟨g, 0, none⟩) gn gn) → g ≠ b'

theorem Pl.mono {W : World} {B : Nat} {S T : Nat → Nat → Prop} (h : Pl W B S) (hS : ∀ b o, T b o → S b o) : Pl W B T :=
  ⟨fun b o s => h.hd b o (hS b o s), fun b o b' o' g gn gn' s s' => h.apart b o b' o' g gn gn' (hS b o s) (hS b' o' s'), fun b o b' o' g gn s s' => h.off b o b' o' g gn (hS b o s) (hS b' o' s')⟩

/-- A hand's row, if there is one. -/
theorem Hd.rowOf {W : World} {B : Nat} {p : Addr} {go : Option Addr} {gn g : Nat} {k : Nat} (h : Hd W B p go gn) (hc : W.cell? p = some (.slice (some ⟨g, 0, none⟩) k k)) : go = some ⟨g, 0, none⟩ ∧ gn = k ∧ B ≤ g ∧ g ≠ p.block ∧ PRow W g gn 0 (fun _ => 0) := by
  have e := h.cell.symm.trans hc
  have e' : go = some ⟨g, 0, none⟩ ∧ gn = k := by simp only [Option.some.injEq, Value.slice.injEq] at e; exact ⟨e.1, e.2.1⟩
  rcases h.row with ⟨e1, _⟩ | ⟨g', e1, h1, h2, h3⟩
  · rw [e'.1] at e1; cases e1
  · rw [e'.1] at e1
    have e2 : g = g' := by cases e1; rfl
    subst e2
    exact ⟨e'.1, e'.2, h1, h2, h3⟩

/-- One hand is filled, looked at, written over: all others are as they were. -/
theorem Pl.one {w w' : World} {B : Nat} {S : Nat → Nat → Prop} {hb ho : Nat} {go : Option Addr} {gn g c : Nat} (h : Pl w B S) (hS : S hb ho) (hc : w.cell? ⟨hb, ho, none⟩ = some (.slice go gn gn)) (hd' : Hd w' B ⟨hb, ho, none⟩ (some ⟨g, 0, none⟩) c) (fresh : go = some ⟨g, 0, none⟩ ∨ w.heap.size ≤ g)
    (keep : Keep w w' (fun b => b = hb ∨ some b = (Value.slice go 0 0).ownBlock)) (others : ∀ o, o ≠ ho → w'.cell? ⟨hb, o, none⟩ = w.cell? ⟨hb, o, none⟩ ∧ w'.frozen? ⟨hb, o, none⟩ = w.frozen? ⟨hb, o, none⟩) : Pl w' B S := by
  obtain ⟨go0, gn0, H0⟩ := h.hd hb ho hS
  have e0 : go0 = go ∧ gn0 = gn := by
    have e := H0.cell.symm.trans hc
    simp only [Option.some.injEq, Value.slice.injEq] at e; exact ⟨e.1, e.2.1⟩
  obtain ⟨rfl, rfl⟩ := e0
  have own : ∀ t, some t = (Value.slice go0 0 0).ownBlock → go0 = some ⟨t, 0, none⟩ := fun t e => by
    rcases H0.row with ⟨e1, _⟩ | ⟨g', e1, _⟩
    · subst e1; cases e
    · subst e1; cases e; rfl
  have key : ∀ b o, S b o → ¬ (b = hb ∧ o = ho) → w'.cell? ⟨b, o, none⟩ = w.cell? ⟨b, o, none⟩ ∧ w'.frozen? ⟨b, o, none⟩ = w.frozen? ⟨b, o, none⟩ ∧ ∀ t k, w.cell? ⟨b, o, none⟩ = some (.slice (some ⟨t, 0, none⟩) k k) → w'.heap[t]? = w.heap[t]? ∧ t ≠ g := fun b o s hn => by
    obtain ⟨go2, gn2, H2⟩ := h.hd b o s
    have hl := World.block_lt_of_cell? w _ H2.cell
    refine ⟨?_, ?_, fun t k e => ?_⟩
    · by_cases eb : b = hb
      · subst eb; exact (others o (fun e => hn ⟨rfl, e⟩)).1
      · exact World.cell?_of_block (a := ⟨b, o, none⟩) (keep.block b hl (fun e => e.elim eb (fun e => h.off hb ho b o b gn0 hS s ((own b e) ▸ H0.cell) rfl)))
    · by_cases eb : b = hb
      · subst eb; exact (others o (fun e => hn ⟨rfl, e⟩)).2
      · exact World.frozen?_of_block (a := ⟨b, o, none⟩) (keep.block b hl (fun e => e.elim eb (fun e => h.off hb ho b o b gn0 hS s ((own b e) ▸ H0.cell) rfl)))
    · obtain ⟨r1, r2, r3, r4, r5⟩ := H2.rowOf e
      have ht := r5.lt
      have ne1 : go0 ≠ some ⟨t, 0, none⟩ := fun e2 => by
        subst e2
        exact hn ((h.apart b o hb ho t k gn0 s hS e H0.cell))
      refine ⟨keep.block t ht (fun e2 => e2.elim (h.off b o hb ho t k s hS e) (fun e2 => ne1 (own t e2))), ?_⟩
      rintro rfl
      rcases fresh with e2 | e2
      · exact ne1 e2
      · omega
  refine ⟨fun b o s => ?_, fun b o b' o' t k k' s s' e e' => ?_, fun b o b' o' t k s s' e => ?_⟩
  · by_cases hn : b = hb ∧ o = ho
    · obtain ⟨rfl, rfl⟩ := hn; exact ⟨_, _, hd'⟩
    · obtain ⟨k1, k2, k3⟩ := key b o s hn
      obtain ⟨go2, gn2, H2⟩ := h.hd b o s
      refine ⟨go2, gn2, k1.trans H2.cell, k2.trans H2.frozen, H2.base, ?_⟩
      rcases H2.row with e | ⟨t, e, h1, h2, h3⟩
      · exact .inl e
      · obtain ⟨cur, x1, x2, x3⟩ := h3.blk
        exact .inr ⟨t, e, h1, h2, ⟨⟨cur, ((k3 t gn2 (e ▸ H2.cell)).1).trans x1, x2, x3⟩, h3.le⟩⟩
  · by_cases hn : b = hb ∧ o = ho
    · obtain ⟨rfl, rfl⟩ := hn
      by_cases hn' : b' = b ∧ o' = o
      · exact ⟨hn'.1.symm, hn'.2.symm⟩
      · obtain ⟨k1, k2, k3⟩ := key b' o' s' hn'
        have := (k3 t k' (k1 ▸ e')).2
        have e2 := hd'.cell.symm.trans e
        simp only [Option.some.injEq, Value.slice.injEq, Addr.mk.injEq] at e2
        exact absurd e2.1.1.symm this
    · obtain ⟨k1, k2, k3⟩ := key b o s hn
      by_cases hn' : b' = hb ∧ o' = ho
      · obtain ⟨rfl, rfl⟩ := hn'
        have := (k3 t k (k1 ▸ e)).2
        have e2 := hd'.cell.symm.trans e'
        simp only [Option.some.injEq, Value.slice.injEq, Addr.mk.injEq] at e2
        exact absurd e2.1.1.symm this
      · obtain ⟨l1, l2, l3⟩ := key b' o' s' hn'
        exact h.apart b o b' o' t k k' s s' (k1 ▸ e) (l1 ▸ e')
  · by_cases hn : b = hb ∧ o = ho
    · obtain ⟨rfl, rfl⟩ := hn
      have e2 := hd'.cell.symm.trans e
      simp only [Option.some.injEq, Value.slice.injEq, Addr.mk.injEq] at e2
      obtain ⟨⟨rfl, _⟩, _⟩ := e2
      rcases fresh with e3 | e3
      · subst e3; exact h.off b o b' o' g gn0 s s' H0.cell
      · obtain ⟨go2, gn2, H2⟩ := h.hd b' o' s'
        have := World.block_lt_of_cell? w _ H2.cell
        rintro rfl
        exact absurd this (by show ¬ g < w.heap.size; omega)
    · obtain ⟨k1, k2, k3⟩ := key b o s hn
      exact h.off b o b' o' t k s s' (k1 ▸ e)

/-- The places are as they were, their rows may be written over. -/
theorem Pl.same {w w' : World} {B : Nat} {S : Nat → Nat → Prop} (h : Pl w B S) (hc : ∀ b o, S b o → w'.cell? ⟨b, o, none⟩ = w.cell? ⟨b, o, none⟩ ∧ w'.frozen? ⟨b, o, none⟩ = w.frozen? ⟨b, o, none⟩)
    (hr : ∀ b o g gn, S b o → w.cell? ⟨b, o, none⟩ = some (.slice (some ⟨g, 0, none⟩) gn gn) → PRow w g gn 0 (fun _ => 0) → PRow w' g gn 0 (fun _ => 0)) : Pl w' B S := by
  refine ⟨fun b o s => ?_, fun b o b' o' g gn gn' s s' e e' => h.apart b o b' o' g gn gn' s s' ((hc b o s).1 ▸ e) ((hc b' o' s').1 ▸ e'), fun b o b' o' g gn s s' e => h.off b o b' o' g gn s s' ((hc b o s).1 ▸ e)⟩
  obtain ⟨go, gn, H⟩ := h.hd b o s
  refine ⟨go, gn, (hc b o s).1.trans H.cell, (hc b o s).2.trans H.frozen, H.base, ?_⟩
  rcases H.row with e | ⟨g, e, h1, h2, h3⟩
  · exact .inl e
  · exact .inr ⟨g, e, h1, h2, hr b o g gn s (e ▸ H.cell) h3⟩

theorem PRow.weak {W : World} {g c m : Nat} {f : Nat → Int} (h : PRow W g c m f) : PRow W g c 0 (fun _ => 0) := by
  obtain ⟨cur, h1, h2, _⟩ := h.blk
  exact ⟨⟨cur, h1, h2, fun k hk => by omega⟩, h.le⟩
/-- What lies apart from the places and their rows may change. -/
theorem Pl.keep {w w' : World} {B : Nat} {S : Nat → Nat → Prop} {T : Nat → Prop} (h : Pl w B S) (k : Keep w w' T) (h1 : ∀ b o, S b o → ¬ T b) (h2 : ∀ b o g gn, S b o → w.cell? ⟨b, o, none⟩ = some (.slice (some ⟨g, 0, none⟩) gn gn) → ¬ T g) : Pl w' B S :=
  h.same (fun b o s => by
    obtain ⟨go, gn, H⟩ := h.hd b o s
    have e := k.block b (World.block_lt_of_cell? w _ H.cell) (h1 b o s)
    exact ⟨World.cell?_of_block (a := ⟨b, o, none⟩) e, World.frozen?_of_block (a := ⟨b, o, none⟩) e⟩)
    (fun b o g gn s e hp => by
      obtain ⟨cur, x1, x2, x3⟩ := hp.blk
      exact ⟨⟨cur, (k.block g hp.lt (h2 b o g gn s e)).trans x1, x2, x3⟩, hp.le⟩)
theorem Pl.grown {w w' : World} {B : Nat} {S : Nat → Nat → Prop} (h : Pl w B S) (k : w.grownBy w' none) : Pl w' B S :=
  h.keep (Keep.of k) (fun b o s e => by cases e) (fun b o g gn s e e2 => by cases e2)
/-- A hand's row is written over. -/
theorem Pl.over {w w' : World} {B : Nat} {S : Nat → Nat → Prop} {b0 o0 g c m : Nat} {f : Nat → Int} (h : Pl w B S) (s0 : S b0 o0) (hc : w.cell? ⟨b0, o0, none⟩ = some (.slice (some ⟨g, 0, none⟩) c c)) (hp : PRow w' g c m f) (k : w.grownBy w' (some g)) : Pl w' B S :=
  h.same (fun b o s => by
    obtain ⟨go, gn, H⟩ := h.hd b o s
    have e := k.block b (World.block_lt_of_cell? w _ H.cell) (fun e => h.off b0 o0 b o g c s0 s hc (Option.some.inj e).symm)
    exact ⟨World.cell?_of_block (a := ⟨b, o, none⟩) e, World.frozen?_of_block (a := ⟨b, o, none⟩) e⟩)
    (fun b o t tn s e ht => by
      by_cases et : t = g
      · subst et
        obtain ⟨rfl, rfl⟩ := h.apart b o b0 o0 t tn c s s0 e hc
        have e2 := e.symm.trans hc
        simp only [Option.some.injEq, Value.slice.injEq] at e2
        rw [e2.2.1]; exact hp.weak
      · obtain ⟨cur, x1, x2, x3⟩ := ht.blk
        exact ⟨⟨cur, (k.block t ht.lt (fun e => et (Option.some.inj e))).trans x1, x2, x3⟩, ht.le⟩)

/-- The places of the law's hands: two in the block of the hands, the rest in a row. -/
def Ps (hb : Nat) (mo : Option Addr) (k : Nat) (b o : Nat) : Prop := (b = hb ∧ o < 2) ∨ (mo = some ⟨b, 0, none⟩ ∧ o < k)
/-- A hand more: the row of hands lies where it lay, or in a new block. -/
theorem Pl.grow {w w' : World} {B hb k mb : Nat} {mo : Option Addr} (h : Pl w B (Ps hb mo k)) (hB : B ≤ mb) (hne : mb ≠ hb) (hc : ∀ o, o < 2 → w'.cell? ⟨hb, o, none⟩ = w.cell? ⟨hb, o, none⟩ ∧ w'.frozen? ⟨hb, o, none⟩ = w.frozen? ⟨hb, o, none⟩)
    (hm : ∀ m, mo = some m → m = ⟨m.block, 0, none⟩) (hcell : ∀ o m, o < k → mo = some m → w'.cell? ⟨mb, o, none⟩ = w.cell? ⟨m.block, o, none⟩) (hk0 : 0 < k → mo ≠ none) (hnew : w'.cell? ⟨mb, k, none⟩ = some (.slice none 0 0)) (hz : ∀ o, w'.frozen? ⟨mb, o, none⟩ = false)
    (hmr : ∀ m, mo = some m → m.block ≠ hb)
    (hr : ∀ b o g gn, Ps hb mo k b o → w.cell? ⟨b, o, none⟩ = some (.slice (some ⟨g, 0, none⟩) gn gn) → PRow w g gn 0 (fun _ => 0) → PRow w' g gn 0 (fun _ => 0) ∧ g ≠ mb) : Pl w' B (Ps hb (some ⟨mb, 0, none⟩) (k + 1)) := by
  have back : ∀ b o, Ps hb (some ⟨mb, 0, none⟩) (k + 1) b o → (b = mb ∧ o = k ∧ w'.cell? ⟨b, o, none⟩ = some (.slice none 0 0)) ∨ ∃ b0, Ps hb mo k b0 o ∧ w'.cell? ⟨b, o, none⟩ = w.cell? ⟨b0, o, none⟩ ∧ ((b = hb ∧ b0 = hb) ∨ (b = mb ∧ mo = some ⟨b0, 0, none⟩)) := fun b o s => by
    rcases s with ⟨rfl, ho⟩ | ⟨e, ho⟩
    · exact .inr ⟨b, .inl ⟨rfl, ho⟩, (hc o ho).1, .inl ⟨rfl, rfl⟩⟩
    · have eb : b = mb := by cases e; rfl
      subst eb
      by_cases e : o = k
      · subst e; exact .inl ⟨rfl, rfl, hnew⟩
      · cases hmo : mo with
        | none => exact absurd hmo (hk0 (by omega))
        | some m =>
          refine .inr ⟨m.block, .inr ⟨by rw [← hm m hmo], by omega⟩, hcell o m (by omega) hmo, .inr ⟨rfl, by rw [← hm m hmo]⟩⟩
  refine ⟨fun b o s => ?_, fun b o b' o' g gn gn' s s' e e' => ?_, fun b o b' o' g gn s s' e => ?_⟩
  · have hBb : B ≤ b := by
      rcases s with ⟨rfl, ho⟩ | ⟨e, ho⟩
      · obtain ⟨_, _, H⟩ := h.hd b o (.inl ⟨rfl, ho⟩)
        exact H.base
      · cases e; exact hB
    have hzb : w'.frozen? ⟨b, o, none⟩ = false := by
      rcases s with ⟨rfl, ho⟩ | ⟨e, ho⟩
      · obtain ⟨_, _, H⟩ := h.hd b o (.inl ⟨rfl, ho⟩)
        exact (hc o ho).2.trans H.frozen
      · cases e; exact hz o
    rcases back b o s with ⟨e1, e2, e3⟩ | ⟨b0, s0, e1, e2⟩
    · exact ⟨none, 0, e3, hzb, hBb, .inl ⟨rfl, rfl⟩⟩
    · obtain ⟨go, gn, H⟩ := h.hd b0 o s0
      refine ⟨go, gn, e1.trans H.cell, hzb, hBb, ?_⟩
      rcases H.row with e | ⟨g, e, h1, h2, h3⟩
      · exact .inl e
      · have hh := hr b0 o g gn s0 (e ▸ H.cell) h3
        refine .inr ⟨g, e, h1, ?_, hh.1⟩
        rcases e2 with ⟨rfl, rfl⟩ | ⟨rfl, _⟩
        · exact h2
        · exact hh.2
  · rcases back b o s with ⟨e1, e2, e3⟩ | ⟨b0, s0, e1, e2⟩
    · rw [e3] at e; cases e
    · rcases back b' o' s' with ⟨f1, f2, f3⟩ | ⟨b1, s1, f1, f2⟩
      · rw [f3] at e'; cases e'
      · obtain ⟨rfl, rfl⟩ := h.apart b0 o b1 o' g gn gn' s0 s1 (e1 ▸ e) (f1 ▸ e')
        refine ⟨?_, rfl⟩
        rcases e2 with ⟨x1, x2⟩ | ⟨x1, x2⟩
        · rcases f2 with ⟨y1, y2⟩ | ⟨y1, y2⟩
          · rw [x1, y1]
          · exact absurd x2 (hmr _ y2)
        · rcases f2 with ⟨y1, y2⟩ | ⟨y1, y2⟩
          · exact absurd y2 (hmr _ x2)
          · rw [x1, y1]
  · rcases back b o s with ⟨e1, e2, e3⟩ | ⟨b0, s0, e1, e2⟩
    · rw [e3] at e; cases e
    · obtain ⟨go, gn2, H⟩ := h.hd b0 o s0
      obtain ⟨r1, r2, r3, r4, r5⟩ := H.rowOf (e1 ▸ e)
      rcases s' with ⟨rfl, ho⟩ | ⟨e4, ho⟩
      · exact h.off b0 o b' o' g gn s0 (.inl ⟨rfl, ho⟩) (e1 ▸ e)
      · cases e4
        exact (hr b0 o g gn s0 (e1 ▸ e) (r2 ▸ r5)).2
end Go.Proofs.Ytndjlbedfccnjaa
