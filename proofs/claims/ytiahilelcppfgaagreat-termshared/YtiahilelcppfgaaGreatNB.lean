
/- Package term: sorting, thinning out and copying a list of texts: what stays true. -/

import Derived.Test.YtiahilelcppfgaaGreatProg

import Derived.Shelf.Sort.Plain

import Derived.Shelf.Bits.Mul64

import Derived.Shelf.Slices.Reverse

import Derived.Shelf.Slices.CompactS

import Derived.Shelf.Slices.Cells

import Derived.Shelf.Slices.In.SortNone

import Derived.Test.YtiahilelcppfgaaGreatNA

namespace Go.Proofs

open Go.Shelf

def Tryz.lays190_ren : Go.Shelf.Ren := ⟨fun | 190 => 40 | 125 => 69 | 258 => 68 | 128 => 105 | 129 => 106 | 302 => 96 | 303 => 97 | 304 => 98 | 305 => 99 | 306 => 100 | 307 => 101 | 308 => 102 | 309 => 103 | 310 => 104 | 333 => 117 | 329 => 118 | 330 => 119 | 334 => 120 | 335 => 121 | 336 => 122 | 344 => 126 | n => n, fun | 31 => 47 | 9 => 9 | 3 => 3 | 46 => 91 | 0 => 0 | 51 => 117 | 53 => 119 | 4 => 4 | 183 => 110 | 182 => 109 | 131 => 96 | 5 => 5 | 218 => 130 | 222 => 70 | 228 => 142 | 229 => 39 | n => n, fun | n => n⟩
theorem Tryz.lays190 : Go.Proofs.Lays.n190 Tryz.prog Tryz.lays190_ren := {
  mixed := by kernel_rfl
  f125 := Tryz.func69.trans (congrArg some (by kernel_rfl))
  f128 := Tryz.func105.trans (congrArg some (by kernel_rfl))
  f129 := Tryz.func106.trans (congrArg some (by kernel_rfl))
  f190 := Tryz.func40.trans (congrArg some (by kernel_rfl))
  f258 := Tryz.func68.trans (congrArg some (by kernel_rfl))
  f302 := Tryz.func96.trans (congrArg some (by kernel_rfl))
  f303 := Tryz.func97.trans (congrArg some (by kernel_rfl))
  f304 := Tryz.func98.trans (congrArg some (by kernel_rfl))
  f305 := Tryz.func99.trans (congrArg some (by kernel_rfl))
  f306 := Tryz.func100.trans (congrArg some (by kernel_rfl))
  f307 := Tryz.func101.trans (congrArg some (by kernel_rfl))
  f308 := Tryz.func102.trans (congrArg some (by kernel_rfl))
  f309 := Tryz.func103.trans (congrArg some (by kernel_rfl))
  f310 := Tryz.func104.trans (congrArg some (by kernel_rfl))
  f329 := Tryz.func118.trans (congrArg some (by kernel_rfl))
  f330 := Tryz.func119.trans (congrArg some (by kernel_rfl))
  f333 := Tryz.func117.trans (congrArg some (by kernel_rfl))
  f334 := Tryz.func120.trans (congrArg some (by kernel_rfl))
  f335 := Tryz.func121.trans (congrArg some (by kernel_rfl))
  f336 := Tryz.func122.trans (congrArg some (by kernel_rfl))
  f344 := Tryz.func126.trans (congrArg some (by kernel_rfl))
  t0 := Tryz.underlying0
  a0 := Tryz.isAgg0
  z0 := Tryz.sizeOf0
  v0 := Tryz.zeroValue0
  t3 := Tryz.underlying3
  a3 := Tryz.isAgg3
  z3 := Tryz.sizeOf3
  v3 := Tryz.zeroValue3
  t4 := Tryz.underlying4
  a4 := Tryz.isAgg4
  z4 := Tryz.sizeOf4
  v4 := Tryz.zeroValue4
  t5 := Tryz.underlying5
  a5 := Tryz.isAgg5
  z5 := Tryz.sizeOf5
  v5 := Tryz.zeroValue5
  t9 := Tryz.underlying9
  a9 := Tryz.isAgg9
  z9 := Tryz.sizeOf9
  v9 := Tryz.zeroValue9
  t31 := Tryz.underlying47
  a31 := Tryz.isAgg47
  z31 := Tryz.sizeOf47
  v31 := Tryz.zeroValue47
  t46 := Tryz.underlying91
  a46 := Tryz.isAgg91
  z46 := Tryz.sizeOf91
  v46 := Tryz.zeroValue91
  t51 := Tryz.underlying117
  a51 := Tryz.isAgg117
  z51 := Tryz.sizeOf117
  v51 := Tryz.zeroValue117
  t53 := Tryz.underlying119
  a53 := Tryz.isAgg119
  z53 := Tryz.sizeOf119
  v53 := Tryz.zeroValue119
  t131 := Tryz.underlying96
  a131 := Tryz.isAgg96
  z131 := Tryz.sizeOf96
  v131 := Tryz.zeroValue96
  t182 := Tryz.underlying109
  a182 := Tryz.isAgg109
  z182 := Tryz.sizeOf109
  v182 := Tryz.zeroValue109
  t183 := Tryz.underlying110
  a183 := Tryz.isAgg110
  z183 := Tryz.sizeOf110
  v183 := Tryz.zeroValue110
  t218 := Tryz.underlying130
  a218 := Tryz.isAgg130
  z218 := Tryz.sizeOf130
  v218 := Tryz.zeroValue130
  t222 := Tryz.underlying70
  a222 := Tryz.isAgg70
  z222 := Tryz.sizeOf70
  v222 := Tryz.zeroValue70
  t228 := Tryz.underlying142
  a228 := Tryz.isAgg142
  z228 := Tryz.sizeOf142
  v228 := Tryz.zeroValue142
  t229 := Tryz.underlying39
  a229 := Tryz.isAgg39
  z229 := Tryz.sizeOf39
  v229 := Tryz.zeroValue39 }
open Go.Sort Go.RowKit in

theorem Tryz.slices_Sort_string (blk off cap : Nat) (ss : List (List UInt8)) (w : World) (hH : Holds encStr w blk off ss.toArray) (hblk : blk < w.heap.size) (hsz : ss.length < 4611686018427387904) :
    Calls Tryz.prog 40 #[.slice (some ⟨blk, off, none⟩) ss.length cap] w fun e w' =>
      e = .returned (.tuple #[]) ∧ ∃ n os, w' = grow (putRow encStr (Sort.ahead w n) blk off (ss.mergeSort fun x y => decide (x ≤ y)).toArray) os := Any.slices_Sort_string Tryz.lays190 blk off cap ss w hH hblk hsz
def Tryz.lays194_ren : Go.Shelf.Ren := ⟨fun | 194 => 41 | n => n, fun | 31 => 47 | 9 => 9 | 3 => 3 | 4 => 4 | 0 => 0 | n => n, fun | n => n⟩
theorem Tryz.lays194 : Go.Proofs.Lays.n194 Tryz.prog Tryz.lays194_ren := {
  mixed := by kernel_rfl
  f194 := Tryz.func41.trans (congrArg some (by kernel_rfl))
  t0 := Tryz.underlying0
  a0 := Tryz.isAgg0
  z0 := Tryz.sizeOf0
  v0 := Tryz.zeroValue0
  t3 := Tryz.underlying3
  a3 := Tryz.isAgg3
  z3 := Tryz.sizeOf3
  v3 := Tryz.zeroValue3
  t4 := Tryz.underlying4
  a4 := Tryz.isAgg4
  z4 := Tryz.sizeOf4
  v4 := Tryz.zeroValue4
  t9 := Tryz.underlying9
  a9 := Tryz.isAgg9
  z9 := Tryz.sizeOf9
  v9 := Tryz.zeroValue9
  t31 := Tryz.underlying47
  a31 := Tryz.isAgg47
  z31 := Tryz.sizeOf47
  v31 := Tryz.zeroValue47 }
open Go.RowKit Go.Lib Go.Sort in

/-- slices.Compact at []string: "Compact replaces consecutive runs of equal elements with a single copy. This is like the uniq command found on Unix. Compact modifies the contents of the slice s and returns the modified slice, which may have a smaller length. Compact zeroes the elements between the new length and the original length. The result preserves the nilness of s.": IT RETURNS THE SLICE CUT TO 'Lib.compact zs'; ITS CELLS HOLD 'Lib.compact zs', THEN ZERO VALUES up to the old length; all else is as it was, but for the count of draws. IN THE WORDS OF slices.Sort's CONTRACT ('Holds', 'putRow'): so the everyday 'slices.Sort(xs); xs = slices.Compact(xs)' goes from the one contract to the other. It asks 'zs.length ≤ cap' (every slice's: the reslicing 's[:k]' looks at it). Length 0, nil: '.._empty'. (LAID: no walk: one application.) -/
theorem Tryz.slices_Compact_string (blk off cap : Nat) (zs : List (List UInt8)) (w : World) (hH : Holds encStr w blk off zs.toArray) (hsz : zs.length ≤ 9223372036854775807) (hcap : zs.length ≤ cap) :
    Calls Tryz.prog 41 #[.slice (some ⟨blk, off, none⟩) zs.length cap] w fun e w' => e = .returned (.slice (some ⟨blk, off, none⟩) (Lib.compact zs).length cap) ∧ ∃ q, w' = putRow encStr (Sort.ahead w q) blk off (Lib.compact zs ++ List.replicate (zs.length - (Lib.compact zs).length) []).toArray := Any.slices_Compact_string Tryz.lays194 blk off cap zs w hH hsz hcap
open Go.RowKit Go.Lib Go.Sort in

/-- The same at a slice of length 0, a nil one too: it comes back as it is. (LAID: no walk: one application.) -/
theorem Tryz.slices_Compact_string_empty (a : Option Addr) (cap : Nat) (w : World) :
    Calls Tryz.prog 41 #[.slice a 0 cap] w fun e w' => e = .returned (.slice a 0 cap) ∧ w' = w := Any.slices_Compact_string_empty Tryz.lays194 a cap w
open Go.RowKit Go.Lib Go.Sort in

/-- slices.Compact at []string, of an argument. (LAID: no walk: one application.) -/
theorem Tryz.slices_Compact_string_cells (b off n c : Nat) (Sx : Nat → ByteArray) (w : World) (hbig : n ≤ 9223372036854775807) (hcap : n ≤ c) (hc : ∀ i, i < n → w.cell? ⟨b, off + i, none⟩ = some (.string (Sx i))) (hf : ∀ j, j < n → w.frozen? ⟨b, off + j, none⟩ = false) :
    Calls Tryz.prog 41 #[.slice (some ⟨b, off, none⟩) n c] w fun e w' => e = .returned (.slice (some ⟨b, off, none⟩) (Lib.compact (Lib.strsOf Sx n)).length c) ∧ ∃ q, w' = (w.drewN q).setCells b off ((Lib.compact (Lib.strsOf Sx n) ++ List.replicate (n - (Lib.compact (Lib.strsOf Sx n)).length) []).map encStr) := Any.slices_Compact_string_cells Tryz.lays194 b off n c Sx w hbig hcap hc hf
open Go.RowKit Go.Sort in

/-- .. and plain. (LAID: no walk: one application.) -/
theorem Tryz.slices_Sort_string_none (p : Option Addr) (cap : Nat) (w : World) :
    Calls Tryz.prog 40 #[.slice p 0 cap] w fun e w' => e = .returned (.tuple #[]) ∧ w' = w := Any.slices_Sort_string_none Tryz.lays190 p cap w
end Go.Proofs

namespace Go.Proofs.YtiahilelcppfgaaGreat

open Go.RowKit Go.Sort

set_option linter.unusedVariables false

/-- A row of texts, each cell free to be written. -/
structure Sr (W : World) (g : Nat) (l : List (List UInt8)) : Prop where
  lt : g < W.heap.size
  cells : ∀ i, i < l.length → W.cell? ⟨g, i, none⟩ = some (.string ⟨(l.getD i []).toArray⟩) ∧ W.frozen? ⟨g, i, none⟩ = false
theorem Sr.holds {W : World} {g : Nat} {l : List (List UInt8)} (h : Sr W g l) : Holds encStr W g 0 l.toArray := by
  intro j hj
  have hj' : j < l.length := by simpa using hj
  obtain ⟨h1, h2⟩ := h.cells j hj'
  have e : l.toArray[j]! = l.getD j [] := by
    rw [getElem!_pos _ j hj]; simp [List.getD, hj']
  rw [Nat.zero_add, e]
  exact ⟨h1, h2⟩
theorem Sr.of_holds {W : World} {g : Nat} {l : List (List UInt8)} (hg : g < W.heap.size) (h : Holds encStr W g 0 l.toArray) : Sr W g l := by
  refine ⟨hg, fun j hj => ?_⟩
  have hj' : j < l.toArray.size := by simpa using hj
  obtain ⟨h1, h2⟩ := h j hj'
  have e : l.toArray[j]! = l.getD j [] := by
    rw [getElem!_pos _ j hj']; simp [List.getD, hj]
  rw [Nat.zero_add] at h1 h2
  rw [e] at h1
  exact ⟨h1, h2⟩
theorem Sr.below {W V : World} {g : Nat} {l : List (List UInt8)} (h : Sr W g l) (b : Below W.heap.size W V) : Sr V g l :=
  ⟨Nat.lt_of_lt_of_le h.lt b.size, fun i hi => ⟨(b.cell (p := ⟨g, i, none⟩) h.lt).trans (h.cells i hi).1, by
    have := (h.cells i hi).2
    simp only [World.frozen?] at this ⊢
    rw [b.block g h.lt]; exact this⟩⟩
theorem below_put {W : World} {g n B : Nat} {l : List (List UInt8)} {os : Array Obj} (hB : B ≤ g) (hg : g < W.heap.size) : Below B W (grow (putRow encStr (Sort.ahead W n) g 0 l.toArray) os) := by
  refine ⟨rfl, rfl, rfl, ?_, fun k hk => ?_⟩
  · rw [size_grow, size_putRow]; exact Nat.le_add_right _ _
  · rw [heap_grow_old _ _ (by rw [size_putRow]; show k < W.heap.size; omega)]
    show (mapBlock (Sort.ahead W n) g (putCells encStr 0 l.toArray)).heap[k]? = W.heap[k]?
    simp only [mapBlock, Array.getElem?_modify]
    rw [if_neg (by omega)]
    rfl
theorem below_put0 {W : World} {g n B : Nat} {l : List (List UInt8)} (hB : B ≤ g) (hg : g < W.heap.size) : Below B W (putRow encStr (Sort.ahead W n) g 0 l.toArray) := by
  have := below_put (n := n) (l := l) (os := #[]) hB hg
  rwa [grow_empty] at this
theorem sr_sort {W : World} {g n : Nat} {l l' : List (List UInt8)} {os : Array Obj} (h : Sr W g l) (hl : l'.length = l.length) : Sr (grow (putRow encStr (Sort.ahead W n) g 0 l'.toArray) os) g l' := by
  have h1 : Holds encStr (putRow encStr (Sort.ahead W n) g 0 l'.toArray) g 0 l'.toArray := holds_putRow encStr (Sort.ahead W n) g 0 l.toArray l'.toArray (holds_ahead encStr W n g 0 _ h.holds) (by simpa using hl)
  refine Sr.of_holds (by rw [size_grow, size_putRow]; exact Nat.lt_of_lt_of_le h.lt (Nat.le_add_right _ _)) (holds_grow encStr _ os g 0 _ (by rw [size_putRow]; exact h.lt) h1)
theorem sr_put0 {W : World} {g n : Nat} {l l' : List (List UInt8)} (h : Sr W g l) (hl : l'.length = l.length) : Sr (putRow encStr (Sort.ahead W n) g 0 l'.toArray) g l' := by
  have := sr_sort (n := n) (os := #[]) h hl
  rwa [grow_empty] at this
theorem Sr.take {W : World} {g : Nat} {l : List (List UInt8)} (n : Nat) (h : Sr W g l) (hn : n ≤ l.length) : Sr W g (l.take n) := by
  refine ⟨h.lt, fun i hi => ?_⟩
  rw [List.length_take] at hi
  have e : (l.take n).getD i [] = l.getD i [] := by simp [List.getD, List.getElem?_take_of_lt (show i < n by omega)]
  rw [e]
  exact h.cells i (by omega)
/-- A text is written over by the same one. -/
theorem Sr.same {W : World} {g i : Nat} {l : List (List UInt8)} (h : Sr W g l) (hi : i < l.length) : Sr (W.setCell ⟨g, i, none⟩ (.string ⟨(l.getD i []).toArray⟩)) g l := by
  have e := putRow_set encStr W g 0 l.toArray i (l.getD i []) (by simpa using hi)
  rw [putRow_self encStr W g 0 _ h.holds, Nat.zero_add] at e
  have e2 : l.toArray.setIfInBounds i (l.getD i []) = l.toArray := by
    apply Array.ext_getElem?
    intro k
    rw [Array.getElem?_setIfInBounds]
    by_cases hk : i = k
    · subst hk
      simp [hi, List.getD]
    · simp [hk]
  rw [e2, putRow_self encStr W g 0 _ h.holds] at e
  show Sr (W.setCell ⟨g, i, none⟩ (encStr (l.getD i []))) g l
  rw [e]
  exact h
/-- Texts as lists of bytes. -/
def bys (l : List ByteArray) : List (List UInt8) := l.map (fun t => t.data.toList)
/-- Each text once, in rising order. -/
def nmL (l : List ByteArray) : List (List UInt8) := Lib.compact ((bys l).mergeSort fun x y => decide (x ≤ y))
/-- The names of a term. -/
def nmT (d : Nat) (x : Tr d) : List (List UInt8) := if szO d x then nmL (gat d x) else []
theorem gn_sr {w0 w : World} {pn pg m c : Nat} {o : Option Addr} {l : List ByteArray} (h : Gn w0 w pn pg o m c l) (hm : 0 < m) : l.length = m ∧ m ≤ c ∧ ∃ g, o = some ⟨g, 0, none⟩ ∧ pg + 1 ≤ g ∧ Sr w g (bys l) := by
  have hl : l.length = m := by have := h.own.1; simpa using this
  rcases h.own.2 with ⟨_, e⟩ | ⟨g, cap, cur, e, hB, hg, hnc, hcm, hcs, ht⟩
  · omega
  · injection e with e1 e2 e3
    subst e1 e3
    refine ⟨hl, hnc, g, rfl, hB, (Array.getElem?_eq_some_iff.1 hg).1, fun i hi => ⟨?_, frozen_of_row w g i cur _ hg⟩⟩
    have hi' : i < l.length := by simpa [bys] using hi
    rw [cell_of_row w g i cur _ _ hg, ← Array.getElem?_toList, ← List.getElem?_take_of_lt (i := i) (j := m * 1) (by omega), ht]
    simp [bys, List.getD, hi']
theorem compact_le (l : List (List UInt8)) : (Lib.compact l).length ≤ l.length := by
  unfold Lib.compact Lib.compactUpTo
  rw [List.length_map]
  exact Nat.le_trans (List.length_filter_le _ _) (by simp)
theorem compact_mem {l : List (List UInt8)} {b : List UInt8} (h : b ∈ Lib.compact l) : b ∈ l := by
  unfold Lib.compact Lib.compactUpTo at h
  obtain ⟨j, hj, rfl⟩ := List.mem_map.1 h
  have hj' : j < l.toArray.size := by simpa using List.mem_range.1 (List.mem_filter.1 hj).1
  rw [getElem!_pos _ j hj']
  simp
theorem nmL_mem {l : List ByteArray} {b : List UInt8} (h : b ∈ nmL l) : ∃ t ∈ l, t.data.toList = b := by
  have := compact_mem h
  rw [List.mem_mergeSort] at this
  obtain ⟨t, ht, e⟩ := List.mem_map.1 this
  exact ⟨t, ht, e⟩
theorem pcat_mem {α : Type} {f : Nat → List α} {a : α} : ∀ {m : Nat}, a ∈ pcat f m → ∃ i, i < m ∧ a ∈ f i
  | 0, h => by simp [pcat] at h
  | m + 1, h => by
    rcases List.mem_append.1 h with h | h
    · obtain ⟨i, hi, q⟩ := pcat_mem h
      exact ⟨i, by omega, q⟩
    · exact ⟨m, by omega, h⟩
/-- The texts of a term that is read are no longer than may be. -/
theorem gat_small {W : World} : ∀ (d : Nat) (x : Tr d) (v : List Value), Tv W d x v → ∀ t ∈ gat d x, t.size ≤ 140737488355328
  | 0, _, _, h, _, _ => h.elim
  | d + 1, x, v, h, t, ht => by
    obtain ⟨⟨so, sn, sc, ao, an, ac, ko, kc, e, h1, h2, h3, h4, h5, h6⟩, hk, hn, hs⟩ := h
    rcases List.mem_append.1 (show t ∈ (if isNm x.nd.k then [x.nd.t] else []) ++ pcat (fun i => (x.ks[i]?).elim [] (gat d)) x.ks.length from ht) with q | q
    · split at q
      · rw [List.mem_singleton] at q; rw [q]; exact hs
      · cases q
    · obtain ⟨i, hi, q⟩ := pcat_mem q
      simp only [List.getElem?_eq_getElem hi, Option.elim] at q
      obtain ⟨b, off, _, _, hc⟩ := h5.cells (by omega)
      obtain ⟨c0, c1, c2, c3, c4, c5, hv, _⟩ := hc i _ (List.getElem?_eq_getElem hi)
      exact gat_small d _ _ hv t q
theorem nmL_small {W : World} {d : Nat} {x : Tr d} {v : List Value} (h : Tv W d x v) : ∀ b ∈ nmL (gat d x), b.length ≤ 140737488355328 := by
  intro b hb
  obtain ⟨t, ht, e⟩ := nmL_mem hb
  have := gat_small d x v h t ht
  rw [← e, Array.length_toList]
  exact this
end Go.Proofs.YtiahilelcppfgaaGreat
