
/- Lists of arrays; contract: an array's cells. -/

import Derived.Test.YtjllmfahmlfljabC8

namespace Go.Proofs.Ytjllmfahmlfljab

open Go.RowKit

set_option linter.unusedVariables false

/-- A row of m arrays whose first k are these, each of lists that were made behind the row. -/
structure Ac (W : World) (g m k : Nat) (xs : Nat → List Int × List Int) : Prop where
  row : ∃ cur : List Value, W.heap[g]? = some (.cells cur.toArray 25 (0, 0)) ∧ cur.length = m * 2 ∧ ∀ j, j < k → ∃ so sn sc to tn tc, cur[j * 2]? = some (.slice so sn sc) ∧ cur[j * 2 + 1]? = some (.slice to tn tc) ∧ Ft 3 W (g + 1) so sn sc (xs j).1 ∧ Ft 2 W (g + 1) to tn tc (xs j).2
theorem Ac.lt {W : World} {g m k : Nat} {xs : Nat → List Int × List Int} (h : Ac W g m k xs) : g < W.heap.size := by
  obtain ⟨cur, h1, _⟩ := h.row
  exact (Array.getElem?_eq_some_iff.1 h1).1
theorem Ac.below {W W' : World} {g m k : Nat} {xs : Nat → List Int × List Int} (h : Ac W g m k xs) (hb : Below W.heap.size W W') : Ac W' g m k xs := by
  have hl := h.lt
  obtain ⟨cur, h1, h2, h3⟩ := h.row
  refine ⟨cur, (hb.block g hl).trans h1, h2, fun j hj => ?_⟩
  obtain ⟨so, sn, sc, to, tn, tc, a1, a2, a3, a4⟩ := h3 j hj
  exact ⟨so, sn, sc, to, tn, tc, a1, a2, a3.below hb (Nat.le_refl _), a4.below hb (Nat.le_refl _)⟩
theorem Ac.less {W : World} {g m k k' : Nat} {xs : Nat → List Int × List Int} (h : Ac W g m k xs) (hk : k' ≤ k) : Ac W g m k' xs := by
  obtain ⟨cur, h1, h2, h3⟩ := h.row
  exact ⟨cur, h1, h2, fun j hj => h3 j (by omega)⟩
theorem Ac.new (W : World) (g m : Nat) (xs : Nat → List Int × List Int) (z : Array Value) (h : W.heap[g]? = some (.cells (madeCells z (m * 2)) 25 (0, 0))) : Ac W g m 0 xs := by
  obtain ⟨cur, hcur⟩ := arr_list (madeCells z (m * 2))
  have hl := size_madeCells z (m * 2)
  rw [hcur] at h hl
  exact ⟨cur, h, by simpa using hl, fun j hj => by omega⟩
theorem Ac.set {W : World} {g m k : Nat} {xs : Nat → List Int × List Int} (h : Ac W g m k xs) (hk : k < m) {so to : Option Addr} {sn sc tn tc : Nat} (f1 : Ft 3 W (g + 1) so sn sc (xs k).1) (f2 : Ft 2 W (g + 1) to tn tc (xs k).2) :
    Ac ((W.setCell ⟨g, k * 2, none⟩ (.slice so sn sc)).setCell ⟨g, k * 2 + 1, none⟩ (.slice to tn tc)) g m (k + 1) xs := by
  have kg := set2 W g (k * 2) (k * 2 + 1) (.slice so sn sc) (.slice to tn tc)
  obtain ⟨cur, h1, h2, h3⟩ := h.row
  have a1 := heap_setCell_same W g (k * 2) _ 25 (.slice so sn sc) h1
  have a2 := heap_setCell_same _ g (k * 2 + 1) _ 25 (.slice to tn tc) a1
  have kp : ∀ {e : TypeId} {o : Option Addr} {n c : Nat} {zs : List Int}, Ft e W (g + 1) o n c zs → Ft e ((W.setCell ⟨g, k * 2, none⟩ (.slice so sn sc)).setCell ⟨g, k * 2 + 1, none⟩ (.slice to tn tc)) (g + 1) o n c zs := fun h => h.keep1 kg (fun b off e => by
    have := (h.at b off e).1
    intro e'; cases e'; omega)
  refine ⟨(cur.set (k * 2) (.slice so sn sc)).set (k * 2 + 1) (.slice to tn tc), by simpa using a2, by simpa using h2, fun j hj => ?_⟩
  by_cases e : j = k
  · subst e
    exact ⟨so, sn, sc, to, tn, tc, by rw [List.getElem?_set_ne (by omega), List.getElem?_set_self (by omega)], by rw [List.getElem?_set_self (by simp; omega)], kp f1, kp f2⟩
  · obtain ⟨so', sn', sc', to', tn', tc', b1, b2, b3, b4⟩ := h3 j (by omega)
    exact ⟨so', sn', sc', to', tn', tc', by rw [List.getElem?_set_ne (by omega), List.getElem?_set_ne (by omega)]; exact b1, by rw [List.getElem?_set_ne (by omega), List.getElem?_set_ne (by omega)]; exact b2, kp b3, kp b4⟩
theorem infoA : (Try.prog.info? 25).map (fun i => (i.zero, i.size, i.bytes)) = some (some (.agg #[.slice none 0 0, .slice none 0 0]), 2, 48) := by kernel_rfl
/-- The frame, the cell's shape, and the atoms of the j-th cell. -/
def frm (sh : List Int) (r : Int) : List Int := sh.take (sh.length - rankF sh.length r)
def inn (sh : List Int) (r : Int) : List Int := sh.drop (sh.length - rankF sh.length r)
def clz (sh : List Int) (r : Int) : Nat := (pr (inn sh r)).toNat
def cls (sh at' : List Int) (r : Int) (j : Nat) : List Int × List Int := (inn sh r, (at'.drop (j * clz sh r)).take (clz sh r))
def npl (sh : List Int) (r : Int) : Nat := (pr (frm sh r)).toNat

theorem mayF_drop {sh : List Int} (h : mayF sh = 0) : ∀ p, mayF (sh.drop p) = 0
  | 0 => h
  | p + 1 => by have := mayF_tail (mayF_drop h p); rwa [List.drop_drop] at this
theorem mayF_take {sh : List Int} (h : mayF sh = 0) (p : Nat) : mayF (sh.take p) = 0 := by
  obtain ⟨h1, h2, h3⟩ := mayF_zero h
  by_cases hp : p ≤ sh.length
  · refine mayF_ok (fun k hk => ?_) (by rw [List.length_take]; omega) ?_
    · rw [List.length_take] at hk
      rw [nth_take (by omega)]; exact h1 k (by omega)
    · have := pz_up (l := sh) (i := p) sh.length hp (Nat.le_refl _) h1
      rw [List.take_length] at this; omega
  · rw [List.take_of_length_le (by omega)]; exact h
theorem pr_cut {sh : List Int} (r : Int) : pr (frm sh r) * pr (inn sh r) = pr sh := by
  unfold frm inn; rw [← pr_app, List.take_append_drop]
theorem prF_bd {sh : List Int} (h : mayF sh = 0) : 0 ≤ pr sh ∧ pr sh ≤ 4096 := by
  have := pr_small h sh.length (Nat.le_refl _)
  rwa [List.take_length] at this

theorem box4 {W : World} {g : Nat} {a b c d : Value} {t : TypeId} (h : W.heap[g]? = some (.cells #[a, b, c, d] t (0, 0))) :
    W.cell? ⟨g, 0, none⟩ = some a ∧ W.cell? ⟨g, 1, none⟩ = some b ∧ W.cell? ⟨g, 2, none⟩ = some c ∧ W.cell? ⟨g, 3, none⟩ = some d ∧ W.frozen? ⟨g, 0, none⟩ = false ∧ W.frozen? ⟨g, 1, none⟩ = false ∧ W.frozen? ⟨g, 2, none⟩ = false ∧ W.frozen? ⟨g, 3, none⟩ = false :=
  ⟨(cell_of_row W g 0 _ t (0, 0) h).trans rfl, (cell_of_row W g 1 _ t (0, 0) h).trans rfl, (cell_of_row W g 2 _ t (0, 0) h).trans rfl, (cell_of_row W g 3 _ t (0, 0) h).trans rfl, frozen_of_row W g 0 _ t h, frozen_of_row W g 1 _ t h, frozen_of_row W g 2 _ t h, frozen_of_row W g 3 _ t h⟩
theorem grown_trans {a b c : World} {r : Option Nat} (h : a.grownBy b r) (k : b.grownBy c r) : a.grownBy c r :=
  ⟨k.os.trans h.os, k.tape.trans h.tape, k.output.trans h.output, Nat.le_trans h.size k.size, fun j hj hne => (k.block j (Nat.lt_of_lt_of_le hj h.size) hne).trans (h.block j hj hne)⟩
theorem set4 (W : World) (b : Nat) (x y u v : Value) : W.grownBy ((((W.setCell ⟨b, 0, none⟩ x).setCell ⟨b, 1, none⟩ y).setCell ⟨b, 2, none⟩ u).setCell ⟨b, 3, none⟩ v) (some b) :=
  grown_trans (set2 W b 0 1 x y) (set2 _ b 2 3 u v)
theorem Ac.keep {W W' : World} {g m k b : Nat} {xs : Nat → List Int × List Int} (h : Ac W g m k xs) (hg : W.grownBy W' (some b)) (hb : b < g) : Ac W' g m k xs := by
  have hl := h.lt
  obtain ⟨cur, h1, h2, h3⟩ := h.row
  refine ⟨cur, (hg.block g hl (fun e => by cases e; omega)).trans h1, h2, fun j hj => ?_⟩
  obtain ⟨so, sn, sc, to, tn, tc, a1, a2, a3, a4⟩ := h3 j hj
  exact ⟨so, sn, sc, to, tn, tc, a1, a2, a3.keep1 hg (fun b' off e => by have := (a3.at b' off e).1; intro e'; cases e'; omega), a4.keep1 hg (fun b' off e => by have := (a4.at b' off e).1; intro e'; cases e'; omega)⟩
theorem Ac.slot {W : World} {g m k k' : Nat} {xs : Nat → List Int × List Int} (h : Ac W g m k' xs) (hk : k < m) : ∃ x y, W.cell? ⟨g, k * 2, none⟩ = some x ∧ W.cell? ⟨g, k * 2 + 1, none⟩ = some y ∧ W.frozen? ⟨g, k * 2, none⟩ = false ∧ W.frozen? ⟨g, k * 2 + 1, none⟩ = false := by
  obtain ⟨cur, h1, h2, h3⟩ := h.row
  have a : k * 2 < cur.length := by omega
  have b : k * 2 + 1 < cur.length := by omega
  exact ⟨cur[k * 2], cur[k * 2 + 1], (cell_of_row W g _ _ _ (0, 0) h1).trans (by simp), (cell_of_row W g _ _ _ (0, 0) h1).trans (by simp), frozen_of_row W g _ _ _ h1, frozen_of_row W g _ _ _ h1⟩
/-- Between two parts of a round that fills a row of arrays. -/
structure OnL (Wg V : World) (g m k : Nat) (xs : Nat → List Int × List Int) : Prop where
  b : Below g Wg V
  a : Ac V g m k xs
theorem OnL.below {Wg V V' : World} {g m k : Nat} {xs : Nat → List Int × List Int} (h : OnL Wg V g m k xs) (hb : Below V.heap.size V V') : OnL Wg V' g m k xs :=
  ⟨h.b.trans (hb.mono (Nat.le_of_lt h.a.lt)), h.a.below hb⟩
theorem OnL.set {Wg V : World} {g m k : Nat} {xs : Nat → List Int × List Int} (h : OnL Wg V g m k xs) (hg : g ≤ Wg.heap.size) (hk : k < m) {so to : Option Addr} {sn sc tn tc : Nat} (f1 : Ft 3 V (g + 1) so sn sc (xs k).1) (f2 : Ft 2 V (g + 1) to tn tc (xs k).2) :
    OnL Wg ((V.setCell ⟨g, k * 2, none⟩ (.slice so sn sc)).setCell ⟨g, k * 2 + 1, none⟩ (.slice to tn tc)) g m (k + 1) xs :=
  ⟨below_set2 _ _ _ _ h.b (Nat.le_refl _) hg, h.a.set hk f1 f2⟩
theorem OnL.less {Wg V : World} {g m k : Nat} {xs : Nat → List Int × List Int} (h : OnL Wg V g m (k + 1) xs) : OnL Wg V g m k xs := ⟨h.b, h.a.less (by omega)⟩

end Go.Proofs.Ytjllmfahmlfljab
