
/- What is known of the lists between two rounds. -/

import Derived.Test.YtfbnnofmplakjaaDoorFWa

namespace Go.Proofs.YtfbnnofmplakjaaDoor

open Go.RowKit Go.Extern.Stop Go.Stop Go.Extern

set_option linter.unusedVariables false

def mkb : List UInt8 := [109, 97, 114, 107, 32]
def mrk (i : Nat) : List UInt8 := mkb ++ Lib.itoa (i : Int)

/-- The error, its book in box q, its names, the list of lists lv with the values vs, and the lists themselves as they are now (xs). -/
structure Fq (w : World) (q : Nat) (b : Bs) (e : Value) (ls : List Lk) (na : Option Addr) (nc : Nat) (lv : Value) (vs xs : List Value) (P : Nat → List (List UInt8) → Prop) (W : World) : Prop where
  ch : Ch W e ls b
  nm : St W w.heap.size (.slice na (nms ls).length nc) (nms ls)
  box : W.heap[q]? = some (.cells #[.bool true, .int .i64 (cdE b), .int .i64 (plc b), .slice na (nms ls).length nc, .string ⟨(tx ls b).toArray⟩] 29 (0, 0))
  row : W.ownsRow w.heap.size 27 1 lv vs.length vs
  rows : Rws W w.heap.size xs P
  nap : ∀ (i : Nat) (v : Value) (g : Nat), xs[i]? = some v → v.ownBlock = some g → (Value.slice na (nms ls).length nc).ownBlock ≠ some g
  bel : Below w.heap.size w W
  hq : w.heap.size ≤ q
section
variable {w W W' : World} {q : Nat} {b : Bs} {e : Value} {ls : List Lk} {na : Option Addr} {nc : Nat} {lv : Value} {vs xs : List Value} {P P' : Nat → List (List UInt8) → Prop}

theorem Fq.below (h : Fq w q b e ls na nc lv vs xs P W) (k : Below W.heap.size W W') : Fq w q b e ls na nc lv vs xs P W' :=
  ⟨Ch.below k (Nat.le_refl _) h.ch, own_below h.nm k, heap_at h.box k (Nat.le_refl _), own_below h.row k, h.rows.below k, h.nap, h.bel.trans (k.mono h.bel.size), h.hq⟩
theorem Fq.imp (h : Fq w q b e ls na nc lv vs xs P W) (hp : ∀ i v l, xs[i]? = some v → St W w.heap.size v l → P i l → P' i l) : Fq w q b e ls na nc lv vs xs P' W :=
  ⟨h.ch, h.nm, h.box, h.row, ⟨fun i v hi => by obtain ⟨l, hs, h1⟩ := h.rows.own i v hi; exact ⟨l, hs, hp i v l hi hs h1⟩, h.rows.apart⟩, h.nap, h.bel, h.hq⟩
/-- One list is written, or grown in its place. -/
theorem Fq.step {xs' : List Value} {i g : Nat} {v v' : Value} {l' : List (List UInt8)} (h : Fq w q b e ls na nc lv vs xs P W) (hi : xs[i]? = some v) (hv : v.ownBlock = some g) (hg : W.grownBy W' (some g))
    (hv' : v'.ownBlock = some g) (hs : St W' w.heap.size v' l') (hp : P' i l') (hq : ∀ j l, j ≠ i → P j l → P' j l) (hvs : ∀ j u, xs'[j]? = some u → (j = i ∧ u = v') ∨ (j ≠ i ∧ xs[j]? = some u)) : Fq w q b e ls na nc lv vs xs' P' W' := by
  obtain ⟨l0, h0, _⟩ := h.rows.own i v hi
  refine ⟨h.ch.grown (v := v) (by rw [hv]; exact hg) h0, kept_ne h.nm hg fun g' hn e => ?_, ?_, kept_ne h.row hg fun g' hn e => ?_, h.rows.step hi hv hg hv' hs hp hq hvs, fun j u g' hj hu => ?_, h.bel.grown hg h.bel.size fun j hj => ?_, h.hq⟩
  · injection e with e; subst e
    exact h.nap i v g hi hv hn
  · rw [hg.block q (heap_lt h.box) fun e => row_ne h0 h.box (hv.trans e.symm)]
    exact h.box
  · injection e with e; subst e
    exact own_ne h0 h.row (by decide) hv hn
  · rcases hvs j u hj with ⟨rfl, rfl⟩ | ⟨_, hj'⟩
    · rw [hv'] at hu; injection hu with hu; subst hu
      exact h.nap j v g hi hv
    · exact h.nap j u g' hj' hu
  · injection hj with hj; subst hj
    exact (h0.lt g hv).1
/-- Another row, that is none of these, is written. -/
theorem Fq.other {g : Nat} {cs : Array Value} (h : Fq w q b e ls na nc lv vs xs P W) (hb : W.heap[g]? = some (.cells cs 27 (0, 0))) (hl : lv.ownBlock ≠ some g) (hw : w.heap.size ≤ g) (hg : W.grownBy W' (some g)) : Fq w q b e ls na nc lv vs xs P W' := by
  have n9 : ∀ {B n : Nat} {v : Value} {ys : List Value}, W.ownsRow B 9 1 v n ys → ∀ g', v.ownBlock = some g' → some g ≠ some g' := by
    intro B n v ys hr g' hv e
    injection e with e; subst e
    obtain ⟨c', h1⟩ := own_at hr hv
    rw [hb] at h1
    simp at h1
  refine ⟨?_, kept_ne h.nm hg (n9 h.nm), ?_, kept_ne h.row hg fun g' hn e => hl (by rw [hn]; exact e.symm), h.rows.kept hg fun i v g' hi hv => ?_, h.nap, h.bel.grown hg h.bel.size fun j hj => ?_, h.hq⟩
  · refine Ch.mov (fun g' c' t ht hg' => ?_) h.ch
    rw [hg.block g' (heap_lt hg') ?_]
    · exact hg'
    · intro e
      injection e with e; subst e
      rw [hb] at hg'
      simp at hg'
      obtain ⟨_, rfl⟩ := hg'
      revert ht
      decide
  · rw [hg.block q (heap_lt h.box) ?_]
    · exact h.box
    · intro e
      injection e with e; subst e
      have := h.box
      rw [hb] at this
      simp at this
  · obtain ⟨l, hs, _⟩ := h.rows.own i v hi
    exact n9 hs g' hv
  · injection hj with hj; subst hj; exact hw
theorem rows_q (h : Fq w q b e ls na nc lv vs xs P W) (i : Nat) (v : Value) (g : Nat) (hi : xs[i]? = some v) (hv : v.ownBlock = some g) : some q ≠ some g := by
  obtain ⟨l, hs, _⟩ := h.rows.own i v hi
  intro e
  exact row_ne hs h.box (hv.trans e.symm)
theorem row_q (h : Fq w q b e ls na nc lv vs xs P W) (g : Nat) (hv : lv.ownBlock = some g) : some q ≠ some g := by
  intro e
  injection e with e; subst e
  obtain ⟨cs, h1⟩ := own_at h.row hv
  rw [h.box] at h1
  simp at h1
/-- A step more. -/
theorem Fq.more {w3 : World} {e3 : Value} {na' : Option Addr} {nn' nc' : Nat} {kk : Int} {nm : List UInt8} (h : Fq w q b e ls na nc lv vs vs P W) (hc : Ch w3 e3 (stp ls kk nm) b) (hs : St w3 w.heap.size (.slice na' nn' nc') (nms (stp ls kk nm)))
    (hg : W.grownBy w3 (Value.slice na (nms ls).length nc).ownBlock) (ha : (Value.slice na' nn' nc').ownBlock = (Value.slice na (nms ls).length nc).ownBlock ∨ ∃ g, (Value.slice na' nn' nc').ownBlock = some g ∧ W.heap.size ≤ g) :
    nn' = (nms (stp ls kk nm)).length ∧ Fq w q b e3 (stp ls kk nm) na' nc' lv vs vs P (wr5 w3 q (.bool true) (.int .i64 (cdE b)) (.int .i64 (plc b)) (.slice na' (nms (stp ls kk nm)).length nc') (.string ⟨(tx (stp ls kk nm) b).toArray⟩)) := by
  have hnn : nn' = (nms (stp ls kk nm)).length := by
    obtain ⟨a, c, e⟩ := own_slice hs
    injection e
  subst hnn
  refine ⟨rfl, ?_⟩
  have hq1 : w3.heap[q]? = _ := (hg.block q (heap_lt h.box) (row_ne h.nm h.box).symm).trans h.box
  have h5 := wr5_by w3 q (.bool true) (.int .i64 (cdE b)) (.int .i64 (plc b)) (.slice na' (nms (stp ls kk nm)).length nc') (.string ⟨(tx (stp ls kk nm) b).toArray⟩)
  have hbb : Below w.heap.size w w3 := h.bel.grown hg h.bel.size fun j hj => (h.nm.lt j hj).1
  have r3 : w3.ownsRow w.heap.size 27 1 lv vs.length vs := kept_ne h.row hg fun g hv e => own_ne h.row h.nm (by decide) hv e
  have rr3 : Rws w3 w.heap.size vs P := h.rows.kept hg fun i v g hi hv e => h.nap i v g hi hv e
  refine ⟨wr5_ch' hq1 _ _ _ _ _ hc, wr5_own hq1 _ _ _ _ _ hs, wr5_blk hq1 _ _ _ _ _, kept_ne r3 h5 (row_q h), rr3.kept h5 (rows_q h), fun i v g hi hv e => ?_, wr5_below _ _ _ _ _ hbb h.hq, h.hq⟩
  rcases ha with ha | ⟨g', ha, hlt⟩
  · rw [ha] at e
    exact h.nap i v g hi hv e
  · rw [ha] at e
    injection e with e; subst e
    have := h.rows.lt i v g' hi hv
    omega
/-- Two lists more. -/
theorem Fq.two {W7 W8 A W9 : World} {t1 t2 lv' : Value} {l : List (List UInt8)} (h : Fq w q b e ls na nc lv vs vs P W) (b7 : Below W.heap.size W W7) (s7 : St W7 W.heap.size t1 l) (b8 : Below W7.heap.size W7 W8) (s8 : St W8 W7.heap.size t2 l) (bA : Below W8.heap.size W8 A)
    (r9 : W9.ownsRow w.heap.size 27 1 lv' (vs ++ [t1, t2]).length (vs ++ [t1, t2])) (g9 : A.grownBy W9 lv.ownBlock) (p1 : P vs.length l) (p2 : P (vs.length + 1) l) : Fq w q b e ls na nc lv' (vs ++ [t1, t2]) (vs ++ [t1, t2]) P W9 := by
  have hA := ((h.below b7).below b8).below bA
  have t1A := own_below (own_below s7 b8) bA
  have t2A := own_below s8 bA
  have RA : Rws A w.heap.size (vs ++ [t1, t2]) P := by
    have hlt : ∀ (i : Nat) (v : Value) (g : Nat), vs[i]? = some v → v.ownBlock = some g → g < W.heap.size := fun i v g hi hv => h.rows.lt i v g hi hv
    exact Rws.two (W := A) (C := W.heap.size) (D := W7.heap.size) hA.rows hlt h.bel.size t1A t2A b7.size (fun g hg => (s7.lt g hg).2) p1 p2
  have hne : ∀ {B n : Nat} {v : Value} {ys : List Value}, A.ownsRow B 9 1 v n ys → ∀ g, v.ownBlock = some g → lv.ownBlock ≠ some g := fun hr g hv => own_ne hr hA.row (by decide) hv
  have nA : ∀ (i : Nat) (v : Value) (g : Nat), (vs ++ [t1, t2])[i]? = some v → v.ownBlock = some g → (Value.slice na (nms ls).length nc).ownBlock ≠ some g := by
    intro i v g hi hv e
    have hn := (h.nm.lt g e).2
    by_cases hl : i < vs.length
    · rw [List.getElem?_append_left hl] at hi
      exact h.nap i v g hi hv e
    · rw [List.getElem?_append_right (by omega)] at hi
      match hk : i - vs.length, hi with
      | 0, hi => simp at hi; subst hi; have := (s7.lt g hv).1; omega
      | 1, hi => simp at hi; subst hi; have := (s8.lt g hv).1; have := b7.size; omega
      | n + 2, hi => simp at hi
  refine ⟨?_, kept_ne hA.nm g9 (hne hA.nm), ?_, r9, RA.kept g9 fun i v g hi hv => ?_, nA, hA.bel.grown g9 hA.bel.size fun j hj => (hA.row.lt j hj).1, h.hq⟩
  · refine Ch.mov (fun g' c' t ht hg' => ?_) hA.ch
    rw [g9.block g' (heap_lt hg') ?_]
    · exact hg'
    · intro e
      obtain ⟨cs, h1⟩ := own_at hA.row e.symm
      rw [hg'] at h1
      simp at h1
      obtain ⟨_, rfl⟩ := h1
      revert ht
      decide
  · rw [g9.block q (heap_lt hA.box) ?_]
    · exact hA.box
    · intro e
      exact row_q hA q e.symm rfl
  · obtain ⟨l, hs, _⟩ := RA.own i v hi
    exact hne hs g hv
end

end Go.Proofs.YtfbnnofmplakjaaDoor
