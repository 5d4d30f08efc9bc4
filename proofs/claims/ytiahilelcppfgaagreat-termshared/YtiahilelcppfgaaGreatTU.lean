
/- Package term: cloned. -/

import Derived.Test.YtiahilelcppfgaaGreatTT

import Derived.Test.YtiahilelcppfgaaGreatYTr

namespace Go.Proofs.YtiahilelcppfgaaGreat

open Go.RowKit

set_option linter.unusedVariables false

/-- The box of a term under way, and that of the answer, both behind w. -/
structure Cb (w V : World) (c0 c1 c2 c3 c4 c5 : Value) : Prop where
  bel : Below w.heap.size w V
  rt : V.heap[w.heap.size]? = some (.cells #[c0, c1, c2, c3, c4, c5] 31 (0, 0))
  rr : V.heap[w.heap.size + 1]? = some (.cells #[.int .i64 0, .string ⟨#[]⟩, .int .i64 0, .slice none 0 0, .slice none 0 0, .slice none 0 0] 31 (0, 0))
theorem Cb.below {B : Nat} {w V V' : World} {c0 c1 c2 c3 c4 c5 : Value} (h : Cb w V c0 c1 c2 c3 c4 c5) (b : Below B V V') (hB : V.heap.size ≤ B) : Cb w V' c0 c1 c2 c3 c4 c5 :=
  ⟨h.bel.trans (b.mono (Nat.le_trans h.bel.size hB)), (b.block _ (Nat.lt_of_lt_of_le (Array.getElem?_eq_some_iff.1 h.rt).1 hB)).trans h.rt, (b.block _ (Nat.lt_of_lt_of_le (Array.getElem?_eq_some_iff.1 h.rr).1 hB)).trans h.rr⟩
theorem Cb.set {w V : World} {c0 c1 c2 c3 c4 c5 : Value} (h : Cb w V c0 c1 c2 c3 c4 c5) (i : Nat) (v d0 d1 d2 d3 d4 d5 : Value) (e : (#[c0, c1, c2, c3, c4, c5] : Array Value).setIfInBounds i v = #[d0, d1, d2, d3, d4, d5]) : Cb w (V.setCell ⟨w.heap.size, i, none⟩ v) d0 d1 d2 d3 d4 d5 := by
  refine ⟨below_set1 i v h.bel (Nat.le_refl _) (Nat.le_refl _), ?_, ?_⟩
  · have := heap_setCell_same V w.heap.size i _ 31 v h.rt
    rw [e] at this
    exact this
  · rw [heap_setCell_other _ _ _ _ (by simp)]
    exact h.rr
theorem Cb.drew {w V : World} {c0 c1 c2 c3 c4 c5 : Value} (h : Cb w V c0 c1 c2 c3 c4 c5) : Cb w V.drew c0 c1 c2 c3 c4 c5 := ⟨h.bel.drew, h.rt, h.rr⟩
theorem Cb.cells {w V : World} {c0 c1 c2 c3 c4 c5 : Value} (h : Cb w V c0 c1 c2 c3 c4 c5) : V.cell? ⟨w.heap.size, 0, none⟩ = some c0 ∧ V.cell? ⟨w.heap.size, 1, none⟩ = some c1 ∧ V.cell? ⟨w.heap.size, 2, none⟩ = some c2 ∧ V.cell? ⟨w.heap.size, 3, none⟩ = some c3 ∧ V.cell? ⟨w.heap.size, 4, none⟩ = some c4 ∧ V.cell? ⟨w.heap.size, 5, none⟩ = some c5 := box6 h.rt
theorem Cb.fr {w V : World} {c0 c1 c2 c3 c4 c5 : Value} (h : Cb w V c0 c1 c2 c3 c4 c5) (i : Nat) : V.frozen? ⟨w.heap.size, i, none⟩ = false := frozen_of_row V w.heap.size i _ 31 h.rt
theorem below_of_grown {w V V' : World} {g : Nat} (h : Below w.heap.size w V) (k : V.grownBy V' (some g)) (hg : w.heap.size ≤ g) : Below w.heap.size w V' := h.grown k h.size (fun q e => by injection e with e; omega)
/-- What a call of cloned hands out. -/
def ClP (d : Nat) (x : Tr d) (w : World) (e : Ending) (w' : World) : Prop := ∃ v0 v1 v2 v3 v4 v5 : Value, e = .returned (.agg #[v0, v1, v2, v3, v4, v5]) ∧ Tw w.heap.size w' d x [v0, v1, v2, v3, v4, v5] ∧ Below w.heap.size w w'
/-- Blocks a .. N are as they were. -/
structure Mid (a N : Nat) (W V : World) : Prop where
  size : W.heap.size ≤ V.heap.size
  block : ∀ k, a ≤ k → k < N → V.heap[k]? = W.heap[k]?
theorem Mid.refl (a N : Nat) (W : World) : Mid a N W W := ⟨Nat.le_refl _, fun _ _ _ => rfl⟩
theorem Mid.trans {a N : Nat} {W V U : World} (h : Mid a N W V) (k : Mid a N V U) : Mid a N W U := ⟨Nat.le_trans h.size k.size, fun j h1 h2 => (k.block j h1 h2).trans (h.block j h1 h2)⟩
theorem Mid.below {a N B : Nat} {W V : World} (h : Below B W V) (hN : N ≤ B) : Mid a N W V := ⟨h.size, fun j _ h2 => h.block j (Nat.lt_of_lt_of_le h2 hN)⟩
theorem Mid.set {a N : Nat} (W : World) (g o : Nat) (v : Value) (h : g < a ∨ N ≤ g) : Mid a N W (W.setCell ⟨g, o, none⟩ v) := ⟨(set1 W g o v).size, fun j h1 h2 => heap_setCell_other _ _ _ _ (by simp; omega)⟩
theorem Rd.mid {a N : Nat} {W V : World} {ao : Option Addr} {n : Nat} {zs : List Int} (h : Rd W ao n zs) (m : Mid a N W V) (hb : ∀ b off, ao = some ⟨b, off, none⟩ → a ≤ b ∧ b < N) : Rd V ao n zs := by
  refine ⟨h.len, h.room, h.num, fun h0 => ?_⟩
  obtain ⟨b, off, e, hl, hc⟩ := h.cells h0
  refine ⟨b, off, e, Nat.lt_of_lt_of_le hl m.size, fun k hk => ?_⟩
  have := hc k hk
  simp only [World.cell?] at this ⊢
  rw [m.block b (hb b off e).1 (hb b off e).2]
  exact this
theorem Up.set {a : Nat} (W : World) (g o : Nat) (v : Value) (h : g < a) : Up a W (W.setCell ⟨g, o, none⟩ v) := ⟨(set1 W g o v).size, fun j h1 h2 => heap_setCell_other _ _ _ _ (by simp; omega)⟩
/-- Six cells of a row written. -/
def set6 (cur : Array Value) (o : Nat) (v0 v1 v2 v3 v4 v5 : Value) : Array Value := ((((((cur.setIfInBounds o v0).setIfInBounds (o + 1) v1).setIfInBounds (o + 2) v2).setIfInBounds (o + 3) v3).setIfInBounds (o + 4) v4).setIfInBounds (o + 5) v5)
theorem set6_size (cur : Array Value) (o : Nat) (v0 v1 v2 v3 v4 v5 : Value) : (set6 cur o v0 v1 v2 v3 v4 v5).size = cur.size := by simp [set6]
theorem set6_other (cur : Array Value) (o j : Nat) (v0 v1 v2 v3 v4 v5 : Value) (h : j < o ∨ o + 6 ≤ j) : (set6 cur o v0 v1 v2 v3 v4 v5)[j]? = cur[j]? := by
  unfold set6
  rw [Array.getElem?_setIfInBounds_ne (by omega), Array.getElem?_setIfInBounds_ne (by omega), Array.getElem?_setIfInBounds_ne (by omega), Array.getElem?_setIfInBounds_ne (by omega), Array.getElem?_setIfInBounds_ne (by omega), Array.getElem?_setIfInBounds_ne (by omega)]
theorem set6_at (cur : Array Value) (o : Nat) (v0 v1 v2 v3 v4 v5 : Value) (h : o + 6 ≤ cur.size) : (set6 cur o v0 v1 v2 v3 v4 v5)[o]? = some v0 ∧ (set6 cur o v0 v1 v2 v3 v4 v5)[o + 1]? = some v1 ∧ (set6 cur o v0 v1 v2 v3 v4 v5)[o + 2]? = some v2 ∧ (set6 cur o v0 v1 v2 v3 v4 v5)[o + 3]? = some v3 ∧ (set6 cur o v0 v1 v2 v3 v4 v5)[o + 4]? = some v4 ∧ (set6 cur o v0 v1 v2 v3 v4 v5)[o + 5]? = some v5 := by
  unfold set6
  refine ⟨?_, ?_, ?_, ?_, ?_, ?_⟩ <;> simp [Array.getElem?_setIfInBounds] <;> omega
/-- The world behind the six stores. -/
def W6 (W : World) (g o : Nat) (v0 v1 v2 v3 v4 v5 : Value) : World := (((((W.setCell ⟨g, o, none⟩ v0).setCell ⟨g, o + 1, none⟩ v1).setCell ⟨g, o + 2, none⟩ v2).setCell ⟨g, o + 3, none⟩ v3).setCell ⟨g, o + 4, none⟩ v4).setCell ⟨g, o + 5, none⟩ v5
theorem W6_row {W : World} {g : Nat} {cur : Array Value} {T : TypeId} (o : Nat) (v0 v1 v2 v3 v4 v5 : Value) (h : W.heap[g]? = some (.cells cur T (0, 0))) : (W6 W g o v0 v1 v2 v3 v4 v5).heap[g]? = some (.cells (set6 cur o v0 v1 v2 v3 v4 v5) T (0, 0)) :=
  heap_setCell_same _ _ _ _ _ _ (heap_setCell_same _ _ _ _ _ _ (heap_setCell_same _ _ _ _ _ _ (heap_setCell_same _ _ _ _ _ _ (heap_setCell_same _ _ _ _ _ _ (heap_setCell_same _ _ _ _ _ _ h)))))
theorem W6_grown (W : World) (g o : Nat) (v0 v1 v2 v3 v4 v5 : Value) : W.grownBy (W6 W g o v0 v1 v2 v3 v4 v5) (some g) := by
  have t : ∀ {X Y Z : World}, X.grownBy Y (some g) → Y.grownBy Z (some g) → X.grownBy Z (some g) := fun h k => ⟨k.os.trans h.os, k.tape.trans h.tape, k.output.trans h.output, Nat.le_trans h.size k.size, fun j hj hne => (k.block j (Nat.lt_of_lt_of_le hj h.size) hne).trans (h.block j hj hne)⟩
  exact t (set1 _ _ _ _) (t (set1 _ _ _ _) (t (set1 _ _ _ _) (t (set1 _ _ _ _) (t (set1 _ _ _ _) (set1 _ _ _ _)))))
theorem set6_all (z0 z1 z2 z3 z4 z5 v0 v1 v2 v3 v4 v5 : Value) : set6 #[z0, z1, z2, z3, z4, z5] 0 v0 v1 v2 v3 v4 v5 = #[v0, v1, v2, v3, v4, v5] := by simp [set6]
theorem W6_zero (W : World) (g : Nat) (v0 v1 v2 v3 v4 v5 : Value) : W6 W g 0 v0 v1 v2 v3 v4 v5 = (((((W.setCell ⟨g, 0, none⟩ v0).setCell ⟨g, 1, none⟩ v1).setCell ⟨g, 2, none⟩ v2).setCell ⟨g, 3, none⟩ v3).setCell ⟨g, 4, none⟩ v4).setCell ⟨g, 5, none⟩ v5 := by
  unfold W6
  simp only [Nat.zero_add]
/-- What the walk asks ahead of each of the six stores. -/
theorem W6_asks {W : World} {g : Nat} {cur : Array Value} {T : TypeId} (o : Nat) (v0 v1 v2 v3 v4 v5 : Value) (h : W.heap[g]? = some (.cells cur T (0, 0))) (hs : o + 6 ≤ cur.size) :
    (∃ u, W.cell? ⟨g, o, none⟩ = some u) ∧ W.frozen? ⟨g, o, none⟩ = false ∧
    (∃ u, (W.setCell ⟨g, o, none⟩ v0).cell? ⟨g, o + 1, none⟩ = some u) ∧ (W.setCell ⟨g, o, none⟩ v0).frozen? ⟨g, o + 1, none⟩ = false ∧
    (∃ u, ((W.setCell ⟨g, o, none⟩ v0).setCell ⟨g, o + 1, none⟩ v1).cell? ⟨g, o + 2, none⟩ = some u) ∧ ((W.setCell ⟨g, o, none⟩ v0).setCell ⟨g, o + 1, none⟩ v1).frozen? ⟨g, o + 2, none⟩ = false ∧
    (∃ u, (((W.setCell ⟨g, o, none⟩ v0).setCell ⟨g, o + 1, none⟩ v1).setCell ⟨g, o + 2, none⟩ v2).cell? ⟨g, o + 3, none⟩ = some u) ∧ (((W.setCell ⟨g, o, none⟩ v0).setCell ⟨g, o + 1, none⟩ v1).setCell ⟨g, o + 2, none⟩ v2).frozen? ⟨g, o + 3, none⟩ = false ∧
    (∃ u, ((((W.setCell ⟨g, o, none⟩ v0).setCell ⟨g, o + 1, none⟩ v1).setCell ⟨g, o + 2, none⟩ v2).setCell ⟨g, o + 3, none⟩ v3).cell? ⟨g, o + 4, none⟩ = some u) ∧ ((((W.setCell ⟨g, o, none⟩ v0).setCell ⟨g, o + 1, none⟩ v1).setCell ⟨g, o + 2, none⟩ v2).setCell ⟨g, o + 3, none⟩ v3).frozen? ⟨g, o + 4, none⟩ = false ∧
    (∃ u, (((((W.setCell ⟨g, o, none⟩ v0).setCell ⟨g, o + 1, none⟩ v1).setCell ⟨g, o + 2, none⟩ v2).setCell ⟨g, o + 3, none⟩ v3).setCell ⟨g, o + 4, none⟩ v4).cell? ⟨g, o + 5, none⟩ = some u) ∧ (((((W.setCell ⟨g, o, none⟩ v0).setCell ⟨g, o + 1, none⟩ v1).setCell ⟨g, o + 2, none⟩ v2).setCell ⟨g, o + 3, none⟩ v3).setCell ⟨g, o + 4, none⟩ v4).frozen? ⟨g, o + 5, none⟩ = false := by
  have key : ∀ (U : World) (c : Array Value) (i : Nat), U.heap[g]? = some (.cells c T (0, 0)) → i < c.size → (∃ u, U.cell? ⟨g, i, none⟩ = some u) ∧ U.frozen? ⟨g, i, none⟩ = false := fun U c i hU hi =>
    ⟨⟨c[i], by rw [cell_of_row U g i c T (0, 0) hU]; simp [hi]⟩, frozen_of_row U g i c T hU⟩
  have r1 := heap_setCell_same W g o cur T v0 h
  have r2 := heap_setCell_same _ g (o + 1) _ T v1 r1
  have r3 := heap_setCell_same _ g (o + 2) _ T v2 r2
  have r4 := heap_setCell_same _ g (o + 3) _ T v3 r3
  have r5 := heap_setCell_same _ g (o + 4) _ T v4 r4
  obtain ⟨a1, a2⟩ := key _ _ o h (by omega)
  obtain ⟨a3, a4⟩ := key _ _ (o + 1) r1 (by simp; omega)
  obtain ⟨a5, a6⟩ := key _ _ (o + 2) r2 (by simp; omega)
  obtain ⟨a7, a8⟩ := key _ _ (o + 3) r3 (by simp; omega)
  obtain ⟨b1, b2⟩ := key _ _ (o + 4) r4 (by simp; omega)
  obtain ⟨b3, b4⟩ := key _ _ (o + 5) r5 (by simp; omega)
  exact ⟨a1, a2, a3, a4, a5, a6, a7, a8, b1, b2, b3, b4⟩
/-- The list of kids under way: k of them are copied. -/
structure Cl (d : Nat) (ks : List (Tr d)) (w0 V : World) (N L c k : Nat) (o : Option Addr) : Prop where
  row : 0 < L → ∃ G cur, o = some ⟨G, 0, none⟩ ∧ N ≤ G ∧ V.heap[G]? = some (.cells cur 31 (0, 0)) ∧ cur.size = c * 6 ∧ L ≤ c ∧ ∀ i y, ks[i]? = some y → ∃ c0 c1 c2 c3 c4 c5, ((i < k → Tw (G + 1) V d y [c0, c1, c2, c3, c4, c5]) ∧ (k ≤ i → Tv w0 d y [c0, c1, c2, c3, c4, c5])) ∧ cur[i * 6]? = some c0 ∧ cur[i * 6 + 1]? = some c1 ∧ cur[i * 6 + 2]? = some c2 ∧ cur[i * 6 + 3]? = some c3 ∧ cur[i * 6 + 4]? = some c4 ∧ cur[i * 6 + 5]? = some c5
theorem Cl.begin {d : Nat} {ks : List (Tr d)} {w0 V : World} {N L c : Nat} {o : Option Addr} {news : List Value} (hL : ks.length = L) (h : V.ownsRow N 31 6 (.slice o L c) L news) (hy : ∀ i y, ks[i]? = some y → ∃ c0 c1 c2 c3 c4 c5, Tv w0 d y [c0, c1, c2, c3, c4, c5] ∧ news[i * 6]? = some c0 ∧ news[i * 6 + 1]? = some c1 ∧ news[i * 6 + 2]? = some c2 ∧ news[i * 6 + 3]? = some c3 ∧ news[i * 6 + 4]? = some c4 ∧ news[i * 6 + 5]? = some c5) : Cl d ks w0 V N L c 0 o := by
  refine ⟨fun h0 => ?_⟩
  rcases h.2 with ⟨_, e⟩ | ⟨g, cap, cur, e, hB, hg, hnc, _, hcs, ht⟩
  · omega
  · injection e with e1 e2 e3
    subst e1 e3
    refine ⟨g, cur, rfl, hB, hg, hcs, hnc, fun i y e => ?_⟩
    obtain ⟨c0, c1, c2, c3, c4, c5, hv, q⟩ := hy i y e
    have hi : i < L := by rw [← hL]; exact (List.getElem?_eq_some_iff.1 e).1
    have at' : ∀ j, j < L * 6 → cur[j]? = news[j]? := fun j hj => by rw [← ht, List.getElem?_take_of_lt hj, Array.getElem?_toList]
    exact ⟨c0, c1, c2, c3, c4, c5, ⟨fun h => absurd h (Nat.not_lt_zero _), fun _ => hv⟩, (at' _ (by omega)).trans q.1, (at' _ (by omega)).trans q.2.1, (at' _ (by omega)).trans q.2.2.1, (at' _ (by omega)).trans q.2.2.2.1, (at' _ (by omega)).trans q.2.2.2.2.1, (at' _ (by omega)).trans q.2.2.2.2.2⟩
theorem ft_ge {e : TypeId} {W : World} {B : Nat} {ao : Option Addr} {n c : Nat} {zs : List Int} (h : Ft e W B ao n c zs) : ∀ a, ao = some a → B ≤ a.block := by
  rintro a rfl
  rcases h.own.2 with ⟨e1, _⟩ | ⟨g, cap, cur, e1, hB, _⟩
  · cases e1
  · cases e1; exact hB
theorem tw_mk {B d : Nat} {W : World} {a : Nd} {l : List (Tr d)} {v : List Value} (h : Nv (Tw B W d) W a l v) (hb : ∀ a n c, Value.slice (some a) n c ∈ v → B ≤ a.block) : Tw B W (d + 1) (Tr.mk a l) v := ⟨h, hb⟩
theorem own_sl {V : World} {N L c : Nat} {o : Option Addr} {news : List Value} (h : V.ownsRow N 31 6 (.slice o L c) L news) : Sl o L c := by
  rcases h.2 with ⟨e, h0⟩ | ⟨g, cap, cur, e, hB, hg, hnc, hcm, _⟩
  · cases e; exact ⟨fun _ => ⟨rfl, rfl⟩, Nat.le_refl _, by omega⟩
  · cases e; exact ⟨fun e => (by cases e), hnc, by unfold maxLen at hcm; omega⟩
theorem own_ge {V : World} {N L c : Nat} {o : Option Addr} {news : List Value} (h : V.ownsRow N 31 6 (.slice o L c) L news) : ∀ a, o = some a → N ≤ a.block := by
  rintro a rfl
  rcases h.2 with ⟨e, h0⟩ | ⟨g, cap, cur, e, hB, _⟩
  · cases e
  · cases e; exact hB
theorem cl_step (d : Nat) (ks : List (Tr d)) (y : Tr d) (a0 a1 a2 a3 a4 a5 v0 v1 v2 v3 v4 v5 : Value) (L oc j G : Nat) (cur : Array Value) (w0 w W7 wr X0 W8 U : World) (szw : w.heap.size + 1 < W7.heap.size) (hy : ks[j]? = some y) (hG : W7.heap.size ≤ G) (hcs : cur.size = oc * 6) (hLc : L ≤ oc) (hsz : j * 6 + 6 ≤ cur.size)
    (hel : ∀ i y, ks[i]? = some y → ∃ c0 c1 c2 c3 c4 c5, ((i < j → Tw (G + 1) wr d y [c0, c1, c2, c3, c4, c5]) ∧ (j ≤ i → Tv w0 d y [c0, c1, c2, c3, c4, c5])) ∧ cur[i * 6]? = some c0 ∧ cur[i * 6 + 1]? = some c1 ∧ cur[i * 6 + 2]? = some c2 ∧ cur[i * 6 + 3]? = some c3 ∧ cur[i * 6 + 4]? = some c4 ∧ cur[i * 6 + 5]? = some c5)
    (kx : Below wr.heap.size wr X0) (lG : G < wr.heap.size) (B8 : Cb w W8 a0 a1 a2 a3 a4 a5) (b8 : Below X0.heap.size X0.drew W8) (tw8 : Tw X0.heap.size W8 d y [v0, v1, v2, v3, v4, v5]) (M : Mid (w.heap.size + 2) W7.heap.size W7 wr) (W6' : W8.grownBy U (some G)) (R6 : U.heap[G]? = some (.cells (set6 cur (j * 6) v0 v1 v2 v3 v4 v5) 31 (0, 0))) :
    Cb w U a0 a1 a2 a3 a4 a5 ∧ Mid (w.heap.size + 2) W7.heap.size W7 U ∧ Cl d ks w0 U W7.heap.size L oc (j + 1) (some ⟨G, 0, none⟩) := by
  have szX := kx.size
  have up6 : Up (G + 1) W8 U := ⟨W6'.size, fun q h1 h2 => W6'.block q h2 (fun e => by injection e with e; omega)⟩
  have upX : Up (G + 1) wr W8 := (Up.of_below kx (Nat.le_refl _)).trans ⟨b8.size, fun q h1 h2 => b8.block q h2⟩
  refine ⟨⟨B8.bel.grown W6' B8.bel.size (fun q e => by injection e with e; omega), (W6'.block _ (Array.getElem?_eq_some_iff.1 B8.rt).1 (fun e => by injection e with e; omega)).trans B8.rt, (W6'.block _ (Array.getElem?_eq_some_iff.1 B8.rr).1 (fun e => by injection e with e; omega)).trans B8.rr⟩, ?_, ⟨fun _ => ⟨G, _, rfl, hG, R6, by rw [set6_size]; exact hcs, hLc, fun i y' hy' => ?_⟩⟩⟩
  · have m8 : Mid (w.heap.size + 2) W7.heap.size wr W8 := ⟨Nat.le_trans szX b8.size, fun q h1 h2 => (b8.block q (by have := M.size; show q < X0.heap.size; omega)).trans (kx.block q (by have := M.size; omega))⟩
    exact M.trans (m8.trans ⟨W6'.size, fun q h1 h2 => W6'.block q (by have := m8.size; have := M.size; omega) (fun e => by injection e with e; omega)⟩)
  · by_cases hij : i = j
    · subst hij
      rw [hy] at hy'
      injection hy' with hy'
      subst hy'
      exact ⟨_, _, _, _, _, _, ⟨fun _ => ((tw8.mono (C := G + 1) (by omega)).up up6), fun h => absurd h (by omega)⟩, set6_at cur (i * 6) _ _ _ _ _ _ hsz⟩
    · obtain ⟨d0, d1, d2, d3, d4, d5, hd, r0, r1, r2, r3, r4, r5⟩ := hel i y' hy'
      refine ⟨d0, d1, d2, d3, d4, d5, ⟨fun h => (((hd.1 (by omega)).up upX).up up6), fun h => hd.2 (by omega)⟩, ?_, ?_, ?_, ?_, ?_, ?_⟩
      · rw [set6_other _ _ _ _ _ _ _ _ _ (by omega)]; exact r0
      · rw [set6_other _ _ _ _ _ _ _ _ _ (by omega)]; exact r1
      · rw [set6_other _ _ _ _ _ _ _ _ _ (by omega)]; exact r2
      · rw [set6_other _ _ _ _ _ _ _ _ _ (by omega)]; exact r3
      · rw [set6_other _ _ _ _ _ _ _ _ _ (by omega)]; exact r4
      · rw [set6_other _ _ _ _ _ _ _ _ _ (by omega)]; exact r5
theorem cl_tw (d : Nat) (ks : List (Tr d)) (k n : Int) (t : ByteArray) (sh at1 : List Int) (p1 p2 o1 : Option Addr) (sn pc1 an pc2 L oc : Nat) (w0 w W7 V : World) (hL : ks.length = L) (HR : (Rd W7 p1 sn sh ∧ Sl p1 sn pc1 ∧ ∀ b off, p1 = some ⟨b, off, none⟩ → w.heap.size + 2 ≤ b ∧ b < W7.heap.size) ∧ (∀ a, p1 = some a → w.heap.size ≤ a.block) ∧ (∀ a, p2 = some a → w.heap.size ≤ a.block) ∧ (Rd W7 p2 an at1 ∧ Sl p2 an pc2 ∧ ∀ b off, p2 = some ⟨b, off, none⟩ → w.heap.size + 2 ≤ b ∧ b < W7.heap.size)) (SO : Sl o1 L oc ∧ ∀ a, o1 = some a → W7.heap.size ≤ a.block) (hrm : L * 104 ≤ 140737488351232) (hkb : -9223372036854775808 ≤ k ∧ k ≤ 9223372036854775807) (hnb : -9223372036854775808 ≤ n ∧ n ≤ 9223372036854775807) (ht : t.size ≤ 140737488355328)
    (M : Mid (w.heap.size + 2) W7.heap.size W7 V) (C : Cl d ks w0 V W7.heap.size L oc L o1) (szw : w.heap.size + 1 < W7.heap.size) (U : World) (W6' : V.grownBy U (some (w.heap.size + 1))) :
    Tw w.heap.size U (d + 1) (Tr.mk ⟨k, t, n, sh, at1⟩ ks) [.int .i64 k, .string t, .int .i64 n, .slice p1 sn pc1, .slice p2 an pc2, .slice o1 L oc] := by
  obtain ⟨⟨R1, S1, h1⟩, g1, g2, ⟨R2, S2, h2⟩⟩ := HR
  have mm : Mid (w.heap.size + 2) W7.heap.size W7 U := M.trans ⟨W6'.size, fun q g1 g2 => W6'.block q (Nat.lt_of_lt_of_le g2 M.size) (fun e => by injection e with e; omega)⟩
  refine tw_mk ⟨⟨p1, sn, pc1, p2, an, pc2, o1, oc, by rw [hL], R1.mid mm h1, S1, R2.mid mm h2, S2, ⟨by rw [hL]; exact hrm, fun h0 => ?_⟩, by rw [hL]; exact SO.1⟩, hkb, hnb, ht⟩ (fun a q c ha => ?_)
  · rw [hL] at h0
    obtain ⟨G, cur, rfl, hG, hrow, hcs, hLc, hel⟩ := C.row h0
    have lG := (Array.getElem?_eq_some_iff.1 hrow).1
    have row' := (W6'.block G lG (fun e => by injection e with e; omega)).trans hrow
    have up6 : Up (G + 1) V U := ⟨W6'.size, fun q h1 h2 => W6'.block q h2 (fun e => by injection e with e; omega)⟩
    refine ⟨G, 0, rfl, (Array.getElem?_eq_some_iff.1 row').1, fun i y hy => ?_⟩
    obtain ⟨d0, d1, d2, d3, d4, d5, hd, r0, r1, r2, r3, r4, r5⟩ := hel i y hy
    have hi : i < L := by rw [← hL]; exact (List.getElem?_eq_some_iff.1 hy).1
    refine ⟨d0, d1, d2, d3, d4, d5, ((hd.1 hi).up up6).mono (by omega), ?_, ?_, ?_, ?_, ?_, ?_⟩ <;> rw [Nat.zero_add]
    · exact (cell_of_row _ G _ cur _ _ row').trans r0
    · exact (cell_of_row _ G _ cur _ _ row').trans r1
    · exact (cell_of_row _ G _ cur _ _ row').trans r2
    · exact (cell_of_row _ G _ cur _ _ row').trans r3
    · exact (cell_of_row _ G _ cur _ _ row').trans r4
    · exact (cell_of_row _ G _ cur _ _ row').trans r5
  · simp at ha
    rcases ha with ⟨e, _⟩ | ⟨e, _⟩ | ⟨e, _⟩
    · exact g1 a e.symm
    · exact g2 a e.symm
    · have := SO.2 a e.symm
      omega
set_option maxHeartbeats 2000000 in
theorem cl_end (d : Nat) (ks : List (Tr d)) (k n : Int) (t : ByteArray) (sh at1 : List Int) (p1 p2 o1 : Option Addr) (sn pc1 an pc2 L oc : Nat) (w0 w W7 V : World) (hL : ks.length = L) (HR : (Rd W7 p1 sn sh ∧ Sl p1 sn pc1 ∧ ∀ b off, p1 = some ⟨b, off, none⟩ → w.heap.size + 2 ≤ b ∧ b < W7.heap.size) ∧ (∀ a, p1 = some a → w.heap.size ≤ a.block) ∧ (∀ a, p2 = some a → w.heap.size ≤ a.block) ∧ (Rd W7 p2 an at1 ∧ Sl p2 an pc2 ∧ ∀ b off, p2 = some ⟨b, off, none⟩ → w.heap.size + 2 ≤ b ∧ b < W7.heap.size)) (SO : Sl o1 L oc ∧ ∀ a, o1 = some a → W7.heap.size ≤ a.block) (hrm : L * 104 ≤ 140737488351232) (hkb : -9223372036854775808 ≤ k ∧ k ≤ 9223372036854775807) (hnb : -9223372036854775808 ≤ n ∧ n ≤ 9223372036854775807) (ht : t.size ≤ 140737488355328)
    (B : Cb w V (.int .i64 k) (.string t) (.int .i64 n) (.slice p1 sn pc1) (.slice p2 an pc2) (.slice o1 L oc)) (M : Mid (w.heap.size + 2) W7.heap.size W7 V) (C : Cl d ks w0 V W7.heap.size L oc L o1) (szw : w.heap.size + 1 < W7.heap.size) :
    ((∃ u, V.cell? ⟨w.heap.size + 1, 0, none⟩ = some u) ∧ V.frozen? ⟨w.heap.size + 1, 0, none⟩ = false ∧ (∃ u, (V.setCell ⟨w.heap.size + 1, 0, none⟩ (.int .i64 k)).cell? ⟨w.heap.size + 1, 1, none⟩ = some u) ∧ (V.setCell ⟨w.heap.size + 1, 0, none⟩ (.int .i64 k)).frozen? ⟨w.heap.size + 1, 1, none⟩ = false ∧ (∃ u, ((V.setCell ⟨w.heap.size + 1, 0, none⟩ (.int .i64 k)).setCell ⟨w.heap.size + 1, 1, none⟩ (.string t)).cell? ⟨w.heap.size + 1, 2, none⟩ = some u) ∧ ((V.setCell ⟨w.heap.size + 1, 0, none⟩ (.int .i64 k)).setCell ⟨w.heap.size + 1, 1, none⟩ (.string t)).frozen? ⟨w.heap.size + 1, 2, none⟩ = false ∧ (∃ u, (((V.setCell ⟨w.heap.size + 1, 0, none⟩ (.int .i64 k)).setCell ⟨w.heap.size + 1, 1, none⟩ (.string t)).setCell ⟨w.heap.size + 1, 2, none⟩ (.int .i64 n)).cell? ⟨w.heap.size + 1, 3, none⟩ = some u) ∧ (((V.setCell ⟨w.heap.size + 1, 0, none⟩ (.int .i64 k)).setCell ⟨w.heap.size + 1, 1, none⟩ (.string t)).setCell ⟨w.heap.size + 1, 2, none⟩ (.int .i64 n)).frozen? ⟨w.heap.size + 1, 3, none⟩ = false ∧ (∃ u, ((((V.setCell ⟨w.heap.size + 1, 0, none⟩ (.int .i64 k)).setCell ⟨w.heap.size + 1, 1, none⟩ (.string t)).setCell ⟨w.heap.size + 1, 2, none⟩ (.int .i64 n)).setCell ⟨w.heap.size + 1, 3, none⟩ (.slice p1 sn pc1)).cell? ⟨w.heap.size + 1, 4, none⟩ = some u) ∧ ((((V.setCell ⟨w.heap.size + 1, 0, none⟩ (.int .i64 k)).setCell ⟨w.heap.size + 1, 1, none⟩ (.string t)).setCell ⟨w.heap.size + 1, 2, none⟩ (.int .i64 n)).setCell ⟨w.heap.size + 1, 3, none⟩ (.slice p1 sn pc1)).frozen? ⟨w.heap.size + 1, 4, none⟩ = false ∧ (∃ u, (((((V.setCell ⟨w.heap.size + 1, 0, none⟩ (.int .i64 k)).setCell ⟨w.heap.size + 1, 1, none⟩ (.string t)).setCell ⟨w.heap.size + 1, 2, none⟩ (.int .i64 n)).setCell ⟨w.heap.size + 1, 3, none⟩ (.slice p1 sn pc1)).setCell ⟨w.heap.size + 1, 4, none⟩ (.slice p2 an pc2)).cell? ⟨w.heap.size + 1, 5, none⟩ = some u) ∧ (((((V.setCell ⟨w.heap.size + 1, 0, none⟩ (.int .i64 k)).setCell ⟨w.heap.size + 1, 1, none⟩ (.string t)).setCell ⟨w.heap.size + 1, 2, none⟩ (.int .i64 n)).setCell ⟨w.heap.size + 1, 3, none⟩ (.slice p1 sn pc1)).setCell ⟨w.heap.size + 1, 4, none⟩ (.slice p2 an pc2)).frozen? ⟨w.heap.size + 1, 5, none⟩ = false) ∧ (((((((V.setCell ⟨w.heap.size + 1, 0, none⟩ (.int .i64 k)).setCell ⟨w.heap.size + 1, 1, none⟩ (.string t)).setCell ⟨w.heap.size + 1, 2, none⟩ (.int .i64 n)).setCell ⟨w.heap.size + 1, 3, none⟩ (.slice p1 sn pc1)).setCell ⟨w.heap.size + 1, 4, none⟩ (.slice p2 an pc2)).setCell ⟨w.heap.size + 1, 5, none⟩ (.slice o1 L oc)).cell? ⟨w.heap.size + 1, 0, none⟩ = some (.int .i64 k) ∧ ((((((V.setCell ⟨w.heap.size + 1, 0, none⟩ (.int .i64 k)).setCell ⟨w.heap.size + 1, 1, none⟩ (.string t)).setCell ⟨w.heap.size + 1, 2, none⟩ (.int .i64 n)).setCell ⟨w.heap.size + 1, 3, none⟩ (.slice p1 sn pc1)).setCell ⟨w.heap.size + 1, 4, none⟩ (.slice p2 an pc2)).setCell ⟨w.heap.size + 1, 5, none⟩ (.slice o1 L oc)).cell? ⟨w.heap.size + 1, 1, none⟩ = some (.string t) ∧ ((((((V.setCell ⟨w.heap.size + 1, 0, none⟩ (.int .i64 k)).setCell ⟨w.heap.size + 1, 1, none⟩ (.string t)).setCell ⟨w.heap.size + 1, 2, none⟩ (.int .i64 n)).setCell ⟨w.heap.size + 1, 3, none⟩ (.slice p1 sn pc1)).setCell ⟨w.heap.size + 1, 4, none⟩ (.slice p2 an pc2)).setCell ⟨w.heap.size + 1, 5, none⟩ (.slice o1 L oc)).cell? ⟨w.heap.size + 1, 2, none⟩ = some (.int .i64 n) ∧ ((((((V.setCell ⟨w.heap.size + 1, 0, none⟩ (.int .i64 k)).setCell ⟨w.heap.size + 1, 1, none⟩ (.string t)).setCell ⟨w.heap.size + 1, 2, none⟩ (.int .i64 n)).setCell ⟨w.heap.size + 1, 3, none⟩ (.slice p1 sn pc1)).setCell ⟨w.heap.size + 1, 4, none⟩ (.slice p2 an pc2)).setCell ⟨w.heap.size + 1, 5, none⟩ (.slice o1 L oc)).cell? ⟨w.heap.size + 1, 3, none⟩ = some (.slice p1 sn pc1) ∧ ((((((V.setCell ⟨w.heap.size + 1, 0, none⟩ (.int .i64 k)).setCell ⟨w.heap.size + 1, 1, none⟩ (.string t)).setCell ⟨w.heap.size + 1, 2, none⟩ (.int .i64 n)).setCell ⟨w.heap.size + 1, 3, none⟩ (.slice p1 sn pc1)).setCell ⟨w.heap.size + 1, 4, none⟩ (.slice p2 an pc2)).setCell ⟨w.heap.size + 1, 5, none⟩ (.slice o1 L oc)).cell? ⟨w.heap.size + 1, 4, none⟩ = some (.slice p2 an pc2) ∧ ((((((V.setCell ⟨w.heap.size + 1, 0, none⟩ (.int .i64 k)).setCell ⟨w.heap.size + 1, 1, none⟩ (.string t)).setCell ⟨w.heap.size + 1, 2, none⟩ (.int .i64 n)).setCell ⟨w.heap.size + 1, 3, none⟩ (.slice p1 sn pc1)).setCell ⟨w.heap.size + 1, 4, none⟩ (.slice p2 an pc2)).setCell ⟨w.heap.size + 1, 5, none⟩ (.slice o1 L oc)).cell? ⟨w.heap.size + 1, 5, none⟩ = some (.slice o1 L oc)) ∧ Tw w.heap.size ((((((V.setCell ⟨w.heap.size + 1, 0, none⟩ (.int .i64 k)).setCell ⟨w.heap.size + 1, 1, none⟩ (.string t)).setCell ⟨w.heap.size + 1, 2, none⟩ (.int .i64 n)).setCell ⟨w.heap.size + 1, 3, none⟩ (.slice p1 sn pc1)).setCell ⟨w.heap.size + 1, 4, none⟩ (.slice p2 an pc2)).setCell ⟨w.heap.size + 1, 5, none⟩ (.slice o1 L oc)) (d + 1) (Tr.mk ⟨k, t, n, sh, at1⟩ ks) [.int .i64 k, .string t, .int .i64 n, .slice p1 sn pc1, .slice p2 an pc2, .slice o1 L oc] ∧ Below w.heap.size w ((((((V.setCell ⟨w.heap.size + 1, 0, none⟩ (.int .i64 k)).setCell ⟨w.heap.size + 1, 1, none⟩ (.string t)).setCell ⟨w.heap.size + 1, 2, none⟩ (.int .i64 n)).setCell ⟨w.heap.size + 1, 3, none⟩ (.slice p1 sn pc1)).setCell ⟨w.heap.size + 1, 4, none⟩ (.slice p2 an pc2)).setCell ⟨w.heap.size + 1, 5, none⟩ (.slice o1 L oc)) := by
  have A := W6_asks 0 (.int .i64 k) (.string t) (.int .i64 n) (.slice p1 sn pc1) (.slice p2 an pc2) (.slice o1 L oc) B.rr (by simp)
  have R6 := W6_row 0 (.int .i64 k) (.string t) (.int .i64 n) (.slice p1 sn pc1) (.slice p2 an pc2) (.slice o1 L oc) B.rr
  have W6' := W6_grown V (w.heap.size + 1) 0 (.int .i64 k) (.string t) (.int .i64 n) (.slice p1 sn pc1) (.slice p2 an pc2) (.slice o1 L oc)
  have bl := below_of_grown B.bel W6' (Nat.le_succ _)
  rw [set6_all] at R6
  have cs := box6 R6
  have TW := cl_tw d ks k n t sh at1 p1 p2 o1 sn pc1 an pc2 L oc w0 w W7 V hL HR SO hrm hkb hnb ht M C szw _ W6'
  rw [W6_zero] at cs TW bl
  simp only [Nat.zero_add] at A
  obtain ⟨c0, c1, c2, c3, c4, c5⟩ := cs
  obtain ⟨a0, a2, a3, a5, a6, a8, a9, a11, a12, a14, a15, a17⟩ := A
  exact ⟨⟨a0, a2, a3, a5, a6, a8, a9, a11, a12, a14, a15, a17⟩, ⟨c0, c1, c2, c3, c4, c5⟩, TW, bl⟩
end Go.Proofs.YtiahilelcppfgaaGreat
