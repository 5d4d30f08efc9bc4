
/- A script's entries. -/

import Derived.Test.YtlajainnpnbcaaaSFd

namespace Go.Proofs.Ytlajainnpnbcaaa

open Go.RowKit

set_option linter.unusedVariables false

structure OpQ where
  K : Int
  O : Int
  N : Int
  so : Option Addr
  sn : Nat
  sc : Nat
  ao : Option Addr
  an : Nat
  ac : Nat
  uo : Option Addr
  tn : Nat
  tc : Nat
  bo : Option Addr
  bn : Nat
  bc : Nat
  s : List Int
  a : List Int
  t : List Int
  b : List Int
structure OkQ (w : World) (x : OpQ) : Prop where
  rs : Rd w x.so x.sn x.s
  ra : Rd w x.ao x.an x.a
  rt : Rd w x.uo x.tn x.t
  rb : Rd w x.bo x.bn x.b
  ss : Sl x.so x.sn x.sc
  sa : Sl x.ao x.an x.ac
  st : Sl x.uo x.tn x.tc
  sb : Sl x.bo x.bn x.bc
theorem seven {V : World} {p : Nat} {c0 c1 c2 c3 c4 c5 c6 : Value} (h : V.heap[p]? = some (.cells #[c0, c1, c2, c3, c4, c5, c6] 38 (0, 0))) : V.cell? ⟨p, 0, none⟩ = some c0 ∧ V.cell? ⟨p, 1, none⟩ = some c1 ∧ V.cell? ⟨p, 2, none⟩ = some c2 ∧ V.cell? ⟨p, 3, none⟩ = some c3 ∧ V.cell? ⟨p, 4, none⟩ = some c4 ∧ V.cell? ⟨p, 5, none⟩ = some c5 ∧ V.cell? ⟨p, 6, none⟩ = some c6 ∧ ∀ i, V.frozen? ⟨p, i, none⟩ = false :=
  ⟨cell_of_row V p 0 _ _ (0, 0) h, cell_of_row V p 1 _ _ (0, 0) h, cell_of_row V p 2 _ _ (0, 0) h, cell_of_row V p 3 _ _ (0, 0) h, cell_of_row V p 4 _ _ (0, 0) h, cell_of_row V p 5 _ _ (0, 0) h, cell_of_row V p 6 _ _ (0, 0) h, fun i => frozen_of_row V p i _ _ h⟩
theorem seven34 {V : World} {p : Nat} {c0 c1 c2 c3 c4 c5 c6 x y : Value} (h : V.heap[p]? = some (.cells #[c0, c1, c2, c3, c4, c5, c6] 38 (0, 0))) : ((V.setCell ⟨p, 3, none⟩ x).setCell ⟨p, 4, none⟩ y).heap[p]? = some (.cells #[c0, c1, c2, x, y, c5, c6] 38 (0, 0)) := by
  rw [heap_setCell_same _ p 4 _ _ _ (heap_setCell_same V p 3 _ _ x h)]; rfl
theorem seven56 {V : World} {p : Nat} {c0 c1 c2 c3 c4 c5 c6 x y : Value} (h : V.heap[p]? = some (.cells #[c0, c1, c2, c3, c4, c5, c6] 38 (0, 0))) : ((V.setCell ⟨p, 5, none⟩ x).setCell ⟨p, 6, none⟩ y).heap[p]? = some (.cells #[c0, c1, c2, c3, c4, x, y] 38 (0, 0)) := by
  rw [heap_setCell_same _ p 6 _ _ _ (heap_setCell_same V p 5 _ _ x h)]; rfl
theorem OkQ.below {w w' : World} {x : OpQ} (h : OkQ w x) (k : Below w.heap.size w w') : OkQ w' x :=
  ⟨h.rs.below k (Nat.le_refl _), h.ra.below k (Nat.le_refl _), h.rt.below k (Nat.le_refl _), h.rb.below k (Nat.le_refl _), h.ss, h.sa, h.st, h.sb⟩
/-- Book and shelf, their memory made behind w and ahead of block C. -/
def Aq (w : World) (bb sb C : Nat) (W : World) : Prop :=
  ∃ FB FS so ao m bsc bac bsz vs us lo wo n lc vc sz xs ws zs, Bk W FB bb so ao m m bsc bac bsz vs us ∧ Sh W FS sb lo wo n n lc vc sz xs ws zs ∧ (∀ g, FB g → w.heap.size ≤ g ∧ g < C ∧ ¬ FS g) ∧ (∀ g, FS g → w.heap.size ≤ g ∧ g < C) ∧ C ≤ W.heap.size ∧ Below w.heap.size w W
theorem Aq.below {w W W' : World} {bb sb C : Nat} (h : Aq w bb sb C W) (k : Below W.heap.size W W') : Aq w bb sb C W' := by
  obtain ⟨FB, FS, so, ao, m, bsc, bac, bsz, vs, us, lo, wo, n, lc, vc, sz, xs, ws, zs, h1, h2, h3, h4, h5, h6⟩ := h
  exact ⟨FB, FS, so, ao, m, bsc, bac, bsz, vs, us, lo, wo, n, lc, vc, sz, xs, ws, zs, h1.below k, h2.below k, h3, h4, Nat.le_trans h5 k.size, h6.trans (k.mono h6.size)⟩
theorem Aq.bel {w W : World} {bb sb C : Nat} (h : Aq w bb sb C W) : Below w.heap.size w W ∧ C ≤ W.heap.size := by
  obtain ⟨FB, FS, so, ao, m, bsc, bac, bsz, vs, us, lo, wo, n, lc, vc, sz, xs, ws, zs, h1, h2, h3, h4, h5, h6⟩ := h
  exact ⟨h6, h5⟩
theorem Aq.next {w W : World} {bb sb C : Nat} (h : Aq w bb sb C W) : Aq w bb sb W.heap.size W := by
  obtain ⟨FB, FS, so, ao, m, bsc, bac, bsz, vs, us, lo, wo, n, lc, vc, sz, xs, ws, zs, h1, h2, h3, h4, h5, h6⟩ := h
  exact ⟨FB, FS, so, ao, m, bsc, bac, bsz, vs, us, lo, wo, n, lc, vc, sz, xs, ws, zs, h1, h2, fun g hg => ⟨(h3 g hg).1, by have := (h3 g hg).2.1; omega, (h3 g hg).2.2⟩, fun g hg => ⟨(h4 g hg).1, by have := (h4 g hg).2; omega⟩, Nat.le_refl _, h6⟩
theorem Aq.chg {w W W' : World} {R : Nat → Prop} {bb sb C : Nat} (h : Aq w bb sb C W) (k : Chg R W W') (hR : ∀ g, R g → C ≤ g) : Aq w bb sb C W' := by
  obtain ⟨FB, FS, so, ao, m, bsc, bac, bsz, vs, us, lo, wo, n, lc, vc, sz, xs, ws, zs, h1, h2, h3, h4, h5, h6⟩ := h
  have hw : w.heap.size ≤ C := by have := h3 bb h1.fb; omega
  exact ⟨FB, FS, so, ao, m, bsc, bac, bsz, vs, us, lo, wo, n, lc, vc, sz, xs, ws, zs, h1.chg k fun g hg e => by have := (h3 g hg).2.1; have := hR g e; omega, h2.chg k fun g hg e => by have := (h4 g hg).2; have := hR g e; omega, h3, h4, Nat.le_trans h5 k.size, k.below h6 (fun g hg => Nat.le_trans hw (hR g hg)) (Nat.le_refl _)⟩
/-- The entry under way: its box at p, its two arrays. -/
structure Rq (w : World) (bb sb p : Nat) (KK O N : Int) (X Y : Value × Value) (zx zy : List Int × List Int) (V : World) : Prop where
  A : Aq w bb sb p V
  o : V.heap[p]? = some (.cells #[.int .i64 KK, .int .i64 O, .int .i64 N, X.1, X.2, Y.1, Y.2] 38 (0, 0))
  hX : ArB V p X zx
  hY : ArB V p Y zy
theorem Rq.below {w V V' : World} {bb sb p : Nat} {KK O N : Int} {X Y : Value × Value} {zx zy : List Int × List Int} (h : Rq w bb sb p KK O N X Y zx zy V) (k : Below V.heap.size V V') : Rq w bb sb p KK O N X Y zx zy V' :=
  ⟨h.A.below k, (k.block p (Array.getElem?_eq_some_iff.1 h.o).1).trans h.o, h.hX.below k, h.hY.below k⟩
end Go.Proofs.Ytlajainnpnbcaaa
