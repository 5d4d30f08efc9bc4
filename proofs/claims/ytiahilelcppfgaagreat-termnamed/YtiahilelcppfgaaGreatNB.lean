
/- Package term: sorting, thinning out and copying a list of texts: what stays true. -/

import Derived.Test.YtiahilelcppfgaaGreatNA

import Derived.Test.YtiahilelcppfgaaGreatNSh

namespace Go.Proofs.YtiahilelcppfgaaGreat

open Go.RowKit Go.Sort

set_option linter.unusedVariables false

/-- A row of texts, each cell free to be written. -/
structure Sr (W : World) (g : Nat) (l : List (List UInt8)) : Prop where
  lt : g < W.heap.size
  cells : ∀ i, i < l.length → W.cell? ⟨g, i, none⟩ = some (.string ⟨(l.getD i []).toArray⟩) ∧ W.frozen? ⟨g, i, none⟩ = false
theorem Sr.holds {W : World} {g : Nat} {l : List (List UInt8)} (h : Sr W g l) : Holds encStr W g 0 l.toArray := by
  intro j hj
  have hj' : j < l.length := by simpa using hj
  obtain ⟨h1, h2⟩ := h.cells j hj'
  have e : l.toArray[j]! = l.getD j [] := by
    rw [getElem!_pos _ j hj]; simp [List.getD, hj']
  rw [Nat.zero_add, e]
  exact ⟨h1, h2⟩
theorem Sr.of_holds {W : World} {g : Nat} {l : List (List UInt8)} (hg : g < W.heap.size) (h : Holds encStr W g 0 l.toArray) : Sr W g l := by
  refine ⟨hg, fun j hj => ?_⟩
  have hj' : j < l.toArray.size := by simpa using hj
  obtain ⟨h1, h2⟩ := h j hj'
  have e : l.toArray[j]! = l.getD j [] := by
    rw [getElem!_pos _ j hj']; simp [List.getD, hj]
  rw [Nat.zero_add] at h1 h2
  rw [e] at h1
  exact ⟨h1, h2⟩
theorem Sr.below {W V : World} {g : Nat} {l : List (List UInt8)} (h : Sr W g l) (b : Below W.heap.size W V) : Sr V g l :=
  ⟨Nat.lt_of_lt_of_le h.lt b.size, fun i hi => ⟨(b.cell (p := ⟨g, i, none⟩) h.lt).trans (h.cells i hi).1, by
    have := (h.cells i hi).2
    simp only [World.frozen?] at this ⊢
    rw [b.block g h.lt]; exact this⟩⟩
theorem below_put {W : World} {g n B : Nat} {l : List (List UInt8)} {os : Array Obj} (hB : B ≤ g) (hg : g < W.heap.size) : Below B W (grow (putRow encStr (Sort.ahead W n) g 0 l.toArray) os) := by
  refine ⟨rfl, rfl, rfl, ?_, fun k hk => ?_⟩
  · rw [size_grow, size_putRow]; exact Nat.le_add_right _ _
  · rw [heap_grow_old _ _ (by rw [size_putRow]; show k < W.heap.size; omega)]
    show (mapBlock (Sort.ahead W n) g (putCells encStr 0 l.toArray)).heap[k]? = W.heap[k]?
    simp only [mapBlock, Array.getElem?_modify]
    rw [if_neg (by omega)]
    rfl
theorem below_put0 {W : World} {g n B : Nat} {l : List (List UInt8)} (hB : B ≤ g) (hg : g < W.heap.size) : Below B W (putRow encStr (Sort.ahead W n) g 0 l.toArray) := by
  have := below_put (n := n) (l := l) (os := #[]) hB hg
  rwa [grow_empty] at this
theorem sr_sort {W : World} {g n : Nat} {l l' : List (List UInt8)} {os : Array Obj} (h : Sr W g l) (hl : l'.length = l.length) : Sr (grow (putRow encStr (Sort.ahead W n) g 0 l'.toArray) os) g l' := by
  have h1 : Holds encStr (putRow encStr (Sort.ahead W n) g 0 l'.toArray) g 0 l'.toArray := holds_putRow encStr (Sort.ahead W n) g 0 l.toArray l'.toArray (holds_ahead encStr W n g 0 _ h.holds) (by simpa using hl)
  refine Sr.of_holds (by rw [size_grow, size_putRow]; exact Nat.lt_of_lt_of_le h.lt (Nat.le_add_right _ _)) (holds_grow encStr _ os g 0 _ (by rw [size_putRow]; exact h.lt) h1)
theorem sr_put0 {W : World} {g n : Nat} {l l' : List (List UInt8)} (h : Sr W g l) (hl : l'.length = l.length) : Sr (putRow encStr (Sort.ahead W n) g 0 l'.toArray) g l' := by
  have := sr_sort (n := n) (os := #[]) h hl
  rwa [grow_empty] at this
theorem Sr.take {W : World} {g : Nat} {l : List (List UInt8)} (n : Nat) (h : Sr W g l) (hn : n ≤ l.length) : Sr W g (l.take n) := by
  refine ⟨h.lt, fun i hi => ?_⟩
  rw [List.length_take] at hi
  have e : (l.take n).getD i [] = l.getD i [] := by simp [List.getD, List.getElem?_take_of_lt (show i < n by omega)]
  rw [e]
  exact h.cells i (by omega)
/-- A text is written over by the same one. -/
theorem Sr.same {W : World} {g i : Nat} {l : List (List UInt8)} (h : Sr W g l) (hi : i < l.length) : Sr (W.setCell ⟨g, i, none⟩ (.string ⟨(l.getD i []).toArray⟩)) g l := by
  have e := putRow_set encStr W g 0 l.toArray i (l.getD i []) (by simpa using hi)
  rw [putRow_self encStr W g 0 _ h.holds, Nat.zero_add] at e
  have e2 : l.toArray.setIfInBounds i (l.getD i []) = l.toArray := by
    apply Array.ext_getElem?
    intro k
    rw [Array.getElem?_setIfInBounds]
    by_cases hk : i = k
    · subst hk
      simp [hi, List.getD]
    · simp [hk]
  rw [e2, putRow_self encStr W g 0 _ h.holds] at e
  show Sr (W.setCell ⟨g, i, none⟩ (encStr (l.getD i []))) g l
  rw [e]
  exact h
/-- Texts as lists of bytes. -/
def bys (l : List ByteArray) : List (List UInt8) := l.map (fun t => t.data.toList)
/-- Each text once, in rising order. -/
def nmL (l : List ByteArray) : List (List UInt8) := Lib.compact ((bys l).mergeSort fun x y => decide (x ≤ y))
/-- The names of a term. -/
def nmT (d : Nat) (x : Tr d) : List (List UInt8) := if szO d x then nmL (gat d x) else []
theorem gn_sr {w0 w : World} {pn pg m c : Nat} {o : Option Addr} {l : List ByteArray} (h : Gn w0 w pn pg o m c l) (hm : 0 < m) : l.length = m ∧ m ≤ c ∧ ∃ g, o = some ⟨g, 0, none⟩ ∧ pg + 1 ≤ g ∧ Sr w g (bys l) := by
  have hl : l.length = m := by have := h.own.1; simpa using this
  rcases h.own.2 with ⟨_, e⟩ | ⟨g, cap, cur, e, hB, hg, hnc, hcm, hcs, ht⟩
  · omega
  · injection e with e1 e2 e3
    subst e1 e3
    refine ⟨hl, hnc, g, rfl, hB, (Array.getElem?_eq_some_iff.1 hg).1, fun i hi => ⟨?_, frozen_of_row w g i cur _ hg⟩⟩
    have hi' : i < l.length := by simpa [bys] using hi
    rw [cell_of_row w g i cur _ _ hg, ← Array.getElem?_toList, ← List.getElem?_take_of_lt (i := i) (j := m * 1) (by omega), ht]
    simp [bys, List.getD, hi']
theorem compact_le (l : List (List UInt8)) : (Lib.compact l).length ≤ l.length := by
  unfold Lib.compact Lib.compactUpTo
  rw [List.length_map]
  exact Nat.le_trans (List.length_filter_le _ _) (by simp)
theorem compact_mem {l : List (List UInt8)} {b : List UInt8} (h : b ∈ Lib.compact l) : b ∈ l := by
  unfold Lib.compact Lib.compactUpTo at h
  obtain ⟨j, hj, rfl⟩ := List.mem_map.1 h
  have hj' : j < l.toArray.size := by simpa using List.mem_range.1 (List.mem_filter.1 hj).1
  rw [getElem!_pos _ j hj']
  simp
theorem nmL_mem {l : List ByteArray} {b : List UInt8} (h : b ∈ nmL l) : ∃ t ∈ l, t.data.toList = b := by
  have := compact_mem h
  rw [List.mem_mergeSort] at this
  obtain ⟨t, ht, e⟩ := List.mem_map.1 this
  exact ⟨t, ht, e⟩
theorem pcat_mem {α : Type} {f : Nat → List α} {a : α} : ∀ {m : Nat}, a ∈ pcat f m → ∃ i, i < m ∧ a ∈ f i
  | 0, h => by simp [pcat] at h
  | m + 1, h => by
    rcases List.mem_append.1 h with h | h
    · obtain ⟨i, hi, q⟩ := pcat_mem h
      exact ⟨i, by omega, q⟩
    · exact ⟨m, by omega, h⟩
/-- The texts of a term that is read are no longer than may be. -/
theorem gat_small {W : World} : ∀ (d : Nat) (x : Tr d) (v : List Value), Tv W d x v → ∀ t ∈ gat d x, t.size ≤ 140737488355328
  | 0, _, _, h, _, _ => h.elim
  | d + 1, x, v, h, t, ht => by
    obtain ⟨⟨so, sn, sc, ao, an, ac, ko, kc, e, h1, h2, h3, h4, h5, h6⟩, hk, hn, hs⟩ := h
    rcases List.mem_append.1 (show t ∈ (if isNm x.nd.k then [x.nd.t] else []) ++ pcat (fun i => (x.ks[i]?).elim [] (gat d)) x.ks.length from ht) with q | q
    · split at q
      · rw [List.mem_singleton] at q; rw [q]; exact hs
      · cases q
    · obtain ⟨i, hi, q⟩ := pcat_mem q
      simp only [List.getElem?_eq_getElem hi, Option.elim] at q
      obtain ⟨b, off, _, _, hc⟩ := h5.cells (by omega)
      obtain ⟨c0, c1, c2, c3, c4, c5, hv, _⟩ := hc i _ (List.getElem?_eq_getElem hi)
      exact gat_small d _ _ hv t q
theorem nmL_small {W : World} {d : Nat} {x : Tr d} {v : List Value} (h : Tv W d x v) : ∀ b ∈ nmL (gat d x), b.length ≤ 140737488355328 := by
  intro b hb
  obtain ⟨t, ht, e⟩ := nmL_mem hb
  have := gat_small d x v h t ht
  rw [← e, Array.length_toList]
  exact this
end Go.Proofs.YtiahilelcppfgaaGreat
