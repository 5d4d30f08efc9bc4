
/- Contract: an item that there is. -/

import Derived.Test.YthncgocjegalhaaA4

import Derived.Handy

import Derived.Deep.RegionHeld3

namespace Go.Proofs.Ythncgocjegalhaa

open Go.RowKit

set_option linter.unusedVariables false

theorem num1 {n : Int} (h1 : -9223372036854775808 ≤ n) (h2 : n ≤ 9223372036854775807) : ∀ k, k < [n].length → -9223372036854775808 ≤ nth [n] k ∧ nth [n] k ≤ 9223372036854775807 := by
  intro k hk
  simp at hk
  subst hk; exact ⟨h1, h2⟩

end Go.Proofs.Ythncgocjegalhaa

namespace Go.Proofs.Ythncgocjegalhaa

open Go.RowKit

set_option linter.unusedVariables false

/-- Between the statements of Item: its box, the answer's box, the lists. -/
structure It (w W : World) (so : Option Addr) (sn sc : Nat) (ao : Option Addr) (an ac : Nat) (sh at' : List Int) : Prop where
  c0 : W.cell? ⟨w.heap.size, 0, none⟩ = some (.slice so sn sc)
  c1 : W.cell? ⟨w.heap.size, 1, none⟩ = some (.slice ao an ac)
  r : W.heap[w.heap.size + 1]? = some (.cells #[.slice none 0 0, .slice none 0 0] 36 (0, 0))
  s : Rd W so sn sh
  a : Rd W ao an at'
  bel : Below w.heap.size w W
theorem It.below {w W W' : World} {so : Option Addr} {sn sc : Nat} {ao : Option Addr} {an ac : Nat} {sh at' : List Int} (h : It w W so sn sc ao an ac sh at') (k : Below W.heap.size W W') : It w W' so sn sc ao an ac sh at' := by
  have l0 := World.block_lt_of_cell? W _ h.c0
  have l1 := (Array.getElem?_eq_some_iff.1 h.r).1
  exact ⟨(k.cell (p := ⟨w.heap.size, 0, none⟩) l0).trans h.c0, (k.cell (p := ⟨w.heap.size, 1, none⟩) l0).trans h.c1, (k.block _ l1).trans h.r, h.s.below k (Nat.le_refl _), h.a.below k (Nat.le_refl _), h.bel.trans (k.mono h.bel.size)⟩
theorem It.drew {w W : World} {so : Option Addr} {sn sc : Nat} {ao : Option Addr} {an ac : Nat} {sh at' : List Int} (h : It w W so sn sc ao an ac sh at') : It w W.drew so sn sc ao an ac sh at' :=
  h.below (Below.refl _ W).drew
theorem it_start (w : World) (so : Option Addr) (sn sc : Nat) (ao : Option Addr) (an ac : Nat) (sh at' : List Int) (h : Rd w so sn sh) (g : Rd w ao an at') :
    It w ((w.alloc (.cells #[.slice so sn sc, .slice ao an ac] 36)).alloc (.cells #[.slice none 0 0, .slice none 0 0] 36)) so sn sc ao an ac sh at' := by
  have t := two_boxes w so ao none none sn sc an ac 0 0 0 0
  have b1 := allocNew (w.alloc (.cells #[.slice so sn sc, .slice ao an ac] 36)) (.cells #[.slice none 0 0, .slice none 0 0] 36)
  rw [World.size_alloc] at b1
  exact ⟨t.s0, t.a0, b1, h.below t.bel (Nat.le_refl _), g.below t.bel (Nat.le_refl _), t.bel⟩

end Go.Proofs.Ythncgocjegalhaa

namespace Go.Proofs.Ythncgocjegalhaa

open Go.RowKit

set_option linter.unusedVariables false

theorem wrapIn (n : Int) (h : -9223372036854775808 ≤ n ∧ n ≤ 9223372036854775807) : IntKind.i64.wrap n = n := by rw [IntKind.wrap_i64]; omega

/-- What stays between the parts of Item's last statement. -/
structure Iu (w W : World) (so : Option Addr) (sn sc : Nat) (ao : Option Addr) (an ac : Nat) (sh at' : List Int) : Prop where
  c0 : W.cell? ⟨w.heap.size, 0, none⟩ = some (.slice so sn sc)
  c1 : W.cell? ⟨w.heap.size, 1, none⟩ = some (.slice ao an ac)
  r : ∃ x y, W.heap[w.heap.size + 1]? = some (.cells #[x, y] 36 (0, 0))
  s : Rd W so sn sh
  a : Rd W ao an at'
  bel : Below w.heap.size w W
theorem It.u {w W : World} {so : Option Addr} {sn sc : Nat} {ao : Option Addr} {an ac : Nat} {sh at' : List Int} (h : It w W so sn sc ao an ac sh at') : Iu w W so sn sc ao an ac sh at' := ⟨h.c0, h.c1, ⟨_, _, h.r⟩, h.s, h.a, h.bel⟩
theorem Iu.below {w W W' : World} {so : Option Addr} {sn sc : Nat} {ao : Option Addr} {an ac : Nat} {sh at' : List Int} (h : Iu w W so sn sc ao an ac sh at') (k : Below W.heap.size W W') : Iu w W' so sn sc ao an ac sh at' := by
  obtain ⟨x, y, hr⟩ := h.r
  have l0 := World.block_lt_of_cell? W _ h.c0
  have l1 := (Array.getElem?_eq_some_iff.1 hr).1
  exact ⟨(k.cell (p := ⟨w.heap.size, 0, none⟩) l0).trans h.c0, (k.cell (p := ⟨w.heap.size, 1, none⟩) l0).trans h.c1, ⟨x, y, (k.block _ l1).trans hr⟩, h.s.below k (Nat.le_refl _), h.a.below k (Nat.le_refl _), h.bel.trans (k.mono h.bel.size)⟩
theorem Iu.drew {w W : World} {so : Option Addr} {sn sc : Nat} {ao : Option Addr} {an ac : Nat} {sh at' : List Int} (h : Iu w W so sn sc ao an ac sh at') : Iu w W.drew so sn sc ao an ac sh at' :=
  h.below (Below.refl _ W).drew
theorem Rd.keep0 {w w' : World} {row : Option Nat} {ao : Option Addr} {n : Nat} {zs : List Int} (h : Rd w ao n zs) (hg : w.grownBy w' row) (hne : 0 < n → ∀ b off, ao = some ⟨b, off, none⟩ → some b ≠ row) : Rd w' ao n zs := by
  by_cases h0 : 0 < n
  · exact h.keep1 hg (hne h0)
  · obtain rfl : n = 0 := by omega
    have hz : zs = [] := List.eq_nil_of_length_eq_zero h.len
    subst hz; exact Rd.empty _ _
theorem Iu.set {w W : World} {so : Option Addr} {sn sc : Nat} {ao : Option Addr} {an ac : Nat} {sh at' : List Int} (h : Iu w W so sn sc ao an ac sh at') (hs : 0 < sn → ∀ b off, so = some ⟨b, off, none⟩ → b < w.heap.size) (ha : 0 < an → ∀ b off, ao = some ⟨b, off, none⟩ → b < w.heap.size) (u v : Value) :
    Iu w ((W.setCell ⟨w.heap.size + 1, 0, none⟩ u).setCell ⟨w.heap.size + 1, 1, none⟩ v) so sn sc ao an ac sh at' := by
  have k := set2 W (w.heap.size + 1) 0 1 u v
  obtain ⟨x, y, hr⟩ := h.r
  refine ⟨k.cell h.c0 (by simp), k.cell h.c1 (by simp), ⟨u, v, ?_⟩, h.s.keep0 k (fun h0 b off e => by have := hs h0 b off e; intro e'; cases e'; omega), h.a.keep0 k (fun h0 b off e => by have := ha h0 b off e; intro e'; cases e'; omega), below_set2 _ _ _ _ h.bel (by omega) (Nat.le_refl _)⟩
  have h1 := heap_setCell_same W (w.heap.size + 1) 0 _ 36 u hr
  have h2 := heap_setCell_same _ (w.heap.size + 1) 1 _ 36 v h1
  simpa using h2
theorem Iu.all {w W : World} {so : Option Addr} {sn sc : Nat} {ao : Option Addr} {an ac : Nat} {sh at' : List Int} (h : Iu w W so sn sc ao an ac sh at') : W.cell? ⟨w.heap.size, 0, none⟩ = some (.slice so sn sc) ∧ W.cell? ⟨w.heap.size, 1, none⟩ = some (.slice ao an ac) ∧ Iu w W so sn sc ao an ac sh at' := ⟨h.c0, h.c1, h⟩

theorem Rd.part {w : World} {b off n lo hi z : Nat} {zs : List Int} (h : Rd w (some ⟨b, off, none⟩) n zs) (h1 : lo + z = hi) (h2 : hi ≤ n) : Rd w (some ⟨b, off + lo, none⟩) (hi - lo) ((zs.drop lo).take z) := by
  have := (h.dropAt lo (by omega)).take z (by omega)
  rwa [show hi - lo = z by omega]
theorem Rd.lt {w : World} {ao : Option Addr} {n : Nat} {zs : List Int} (h : Rd w ao n zs) (h0 : 0 < n) : ∀ b off, ao = some ⟨b, off, none⟩ → b < w.heap.size := by
  rintro b off rfl
  obtain ⟨b', off', e, hb, _⟩ := h.cells h0
  cases e; exact hb

end Go.Proofs.Ythncgocjegalhaa
