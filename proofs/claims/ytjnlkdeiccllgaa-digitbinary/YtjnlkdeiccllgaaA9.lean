
/- Contract: an item, of any array, at any index. -/

import Derived.Test.YtjnlkdeiccllgaaA4
import Derived.Handy
import Derived.Deep.RegionHeld3
import Derived.Test.YtjnlkdeiccllgaaMath2


namespace Go.Proofs.Ytjnlkdeiccllgaa

open Go.RowKit

set_option linter.unusedVariables false

theorem num1 {n : Int} (h1 : -9223372036854775808 ≤ n) (h2 : n ≤ 9223372036854775807) : ∀ k, k < [n].length → -9223372036854775808 ≤ nth [n] k ∧ nth [n] k ≤ 9223372036854775807 := by
  intro k hk
  simp at hk
  subst hk; exact ⟨h1, h2⟩

theorem scalar_any (n : Int) (w : World) (h1 : -9223372036854775808 ≤ n) (h2 : n ≤ 9223372036854775807) :
    Calls Try.prog 37 #[.int .i64 n] w fun e w' => ∃ ao c, e = .returned (.agg #[.slice none 0 0, .slice ao 1 c]) ∧ Ft 2 w' w.heap.size ao 1 c [n] ∧ Below w.heap.size w w' := by
  go_enter Try.func37, Try.ntmps37
  go_wp2
  go_returns
  refine ⟨_, _, rfl, ?_, ?_⟩
  · have := ft_new 2 (w.alloc (.cells #[.slice none 0 0, .slice (some ⟨w.heap.size + 1, 0, none⟩) 1 1] 26)) [n] (by simp) (num1 h1 h2)
    rw [World.size_alloc] at this
    exact this.mono (by omega)
  · exact (box_below w _).alloc (by simp) _

end Go.Proofs.Ytjnlkdeiccllgaa



namespace Go.Proofs.Ytjnlkdeiccllgaa

open Go.RowKit

set_option linter.unusedVariables false

/-- Between the statements of Item: its box, the answer's box, the lists. -/
structure It (w W : World) (so : Option Addr) (sn sc : Nat) (ao : Option Addr) (an ac : Nat) (sh at' : List Int) : Prop where
  c0 : W.cell? ⟨w.heap.size, 0, none⟩ = some (.slice so sn sc)
  c1 : W.cell? ⟨w.heap.size, 1, none⟩ = some (.slice ao an ac)
  r : W.heap[w.heap.size + 1]? = some (.cells #[.slice none 0 0, .slice none 0 0] 26 (0, 0))
  s : Rd W so sn sh
  a : Rd W ao an at'
  bel : Below w.heap.size w W
theorem It.below {w W W' : World} {so : Option Addr} {sn sc : Nat} {ao : Option Addr} {an ac : Nat} {sh at' : List Int} (h : It w W so sn sc ao an ac sh at') (k : Below W.heap.size W W') : It w W' so sn sc ao an ac sh at' := by
  have l0 := World.block_lt_of_cell? W _ h.c0
  have l1 := (Array.getElem?_eq_some_iff.1 h.r).1
  exact ⟨(k.cell (p := ⟨w.heap.size, 0, none⟩) l0).trans h.c0, (k.cell (p := ⟨w.heap.size, 1, none⟩) l0).trans h.c1, (k.block _ l1).trans h.r, h.s.below k (Nat.le_refl _), h.a.below k (Nat.le_refl _), h.bel.trans (k.mono h.bel.size)⟩
theorem It.drew {w W : World} {so : Option Addr} {sn sc : Nat} {ao : Option Addr} {an ac : Nat} {sh at' : List Int} (h : It w W so sn sc ao an ac sh at') : It w W.drew so sn sc ao an ac sh at' :=
  h.below (Below.refl _ W).drew
theorem it_start (w : World) (so : Option Addr) (sn sc : Nat) (ao : Option Addr) (an ac : Nat) (sh at' : List Int) (h : Rd w so sn sh) (g : Rd w ao an at') :
    It w ((w.alloc (.cells #[.slice so sn sc, .slice ao an ac] 26)).alloc (.cells #[.slice none 0 0, .slice none 0 0] 26)) so sn sc ao an ac sh at' := by
  have t := two_boxes w so ao none none sn sc an ac 0 0 0 0
  have b1 := allocNew (w.alloc (.cells #[.slice so sn sc, .slice ao an ac] 26)) (.cells #[.slice none 0 0, .slice none 0 0] 26)
  rw [World.size_alloc] at b1
  exact ⟨t.s0, t.a0, b1, h.below t.bel (Nat.le_refl _), g.below t.bel (Nat.le_refl _), t.bel⟩

end Go.Proofs.Ytjnlkdeiccllgaa


namespace Go.Proofs.Ytjnlkdeiccllgaa

open Go.RowKit

set_option linter.unusedVariables false

theorem wrapIn (n : Int) (h : -9223372036854775808 ≤ n ∧ n ≤ 9223372036854775807) : IntKind.i64.wrap n = n := by rw [IntKind.wrap_i64]; omega

/-- What stays between the parts of Item's last statement. -/
structure Iu (w W : World) (so : Option Addr) (sn sc : Nat) (ao : Option Addr) (an ac : Nat) (sh at' : List Int) : Prop where
  c0 : W.cell? ⟨w.heap.size, 0, none⟩ = some (.slice so sn sc)
  c1 : W.cell? ⟨w.heap.size, 1, none⟩ = some (.slice ao an ac)
  r : ∃ x y, W.heap[w.heap.size + 1]? = some (.cells #[x, y] 26 (0, 0))
  s : Rd W so sn sh
  a : Rd W ao an at'
  bel : Below w.heap.size w W
theorem It.u {w W : World} {so : Option Addr} {sn sc : Nat} {ao : Option Addr} {an ac : Nat} {sh at' : List Int} (h : It w W so sn sc ao an ac sh at') : Iu w W so sn sc ao an ac sh at' := ⟨h.c0, h.c1, ⟨_, _, h.r⟩, h.s, h.a, h.bel⟩
theorem Iu.below {w W W' : World} {so : Option Addr} {sn sc : Nat} {ao : Option Addr} {an ac : Nat} {sh at' : List Int} (h : Iu w W so sn sc ao an ac sh at') (k : Below W.heap.size W W') : Iu w W' so sn sc ao an ac sh at' := by
  obtain ⟨x, y, hr⟩ := h.r
  have l0 := World.block_lt_of_cell? W _ h.c0
  have l1 := (Array.getElem?_eq_some_iff.1 hr).1
  exact ⟨(k.cell (p := ⟨w.heap.size, 0, none⟩) l0).trans h.c0, (k.cell (p := ⟨w.heap.size, 1, none⟩) l0).trans h.c1, ⟨x, y, (k.block _ l1).trans hr⟩, h.s.below k (Nat.le_refl _), h.a.below k (Nat.le_refl _), h.bel.trans (k.mono h.bel.size)⟩
theorem Iu.drew {w W : World} {so : Option Addr} {sn sc : Nat} {ao : Option Addr} {an ac : Nat} {sh at' : List Int} (h : Iu w W so sn sc ao an ac sh at') : Iu w W.drew so sn sc ao an ac sh at' :=
  h.below (Below.refl _ W).drew
theorem Rd.keep0 {w w' : World} {row : Option Nat} {ao : Option Addr} {n : Nat} {zs : List Int} (h : Rd w ao n zs) (hg : w.grownBy w' row) (hne : 0 < n → ∀ b off, ao = some ⟨b, off, none⟩ → some b ≠ row) : Rd w' ao n zs := by
  by_cases h0 : 0 < n
  · exact h.keep1 hg (hne h0)
  · obtain rfl : n = 0 := by omega
    have hz : zs = [] := List.eq_nil_of_length_eq_zero h.len
    subst hz; exact Rd.empty _ _
theorem Iu.set {w W : World} {so : Option Addr} {sn sc : Nat} {ao : Option Addr} {an ac : Nat} {sh at' : List Int} (h : Iu w W so sn sc ao an ac sh at') (hs : 0 < sn → ∀ b off, so = some ⟨b, off, none⟩ → b < w.heap.size) (ha : 0 < an → ∀ b off, ao = some ⟨b, off, none⟩ → b < w.heap.size) (u v : Value) :
    Iu w ((W.setCell ⟨w.heap.size + 1, 0, none⟩ u).setCell ⟨w.heap.size + 1, 1, none⟩ v) so sn sc ao an ac sh at' := by
  have k := set2 W (w.heap.size + 1) 0 1 u v
  obtain ⟨x, y, hr⟩ := h.r
  refine ⟨k.cell h.c0 (by simp), k.cell h.c1 (by simp), ⟨u, v, ?_⟩, h.s.keep0 k (fun h0 b off e => by have := hs h0 b off e; intro e'; cases e'; omega), h.a.keep0 k (fun h0 b off e => by have := ha h0 b off e; intro e'; cases e'; omega), below_set2 _ _ _ _ h.bel (by omega) (Nat.le_refl _)⟩
  have h1 := heap_setCell_same W (w.heap.size + 1) 0 _ 26 u hr
  have h2 := heap_setCell_same _ (w.heap.size + 1) 1 _ 26 v h1
  simpa using h2
theorem Iu.all {w W : World} {so : Option Addr} {sn sc : Nat} {ao : Option Addr} {an ac : Nat} {sh at' : List Int} (h : Iu w W so sn sc ao an ac sh at') : W.cell? ⟨w.heap.size, 0, none⟩ = some (.slice so sn sc) ∧ W.cell? ⟨w.heap.size, 1, none⟩ = some (.slice ao an ac) ∧ Iu w W so sn sc ao an ac sh at' := ⟨h.c0, h.c1, h⟩

theorem Rd.part {w : World} {b off n lo hi z : Nat} {zs : List Int} (h : Rd w (some ⟨b, off, none⟩) n zs) (h1 : lo + z = hi) (h2 : hi ≤ n) : Rd w (some ⟨b, off + lo, none⟩) (hi - lo) ((zs.drop lo).take z) := by
  have := (h.dropAt lo (by omega)).take z (by omega)
  rwa [show hi - lo = z by omega]
theorem Rd.lt {w : World} {ao : Option Addr} {n : Nat} {zs : List Int} (h : Rd w ao n zs) (h0 : 0 < n) : ∀ b off, ao = some ⟨b, off, none⟩ → b < w.heap.size := by
  rintro b off rfl
  obtain ⟨b', off', e, hb, _⟩ := h.cells h0
  cases e; exact hb

theorem item_end {w W2 w3 w4 w5 : World} {o4 o5 : Option Addr} {n4 c4 n5 c5 : Nat} {l4 l5 : List Int} (hsz : w.heap.size + 1 < W2.heap.size) (h3 : Below W2.drew.heap.size W2.drew w3) (f4 : Ft 3 w4 w3.heap.size o4 n4 c4 l4) (h4 : Below w3.heap.size w3 w4) (f5 : Ft 2 w5 w4.heap.size o5 n5 c5 l5) (h5 : Below w4.heap.size w4 w5) (bel : Below w.heap.size w w5) :
    ∃ o1 n1 c1 o2 c2, Ending.returned (.tuple #[.agg #[.slice o4 n4 c4, .slice o5 n5 c5], .int .i64 0]) = .returned (.tuple #[.agg #[.slice o1 n1 c1, .slice o2 n5 c2], .int .i64 0]) ∧ Ft 3 ((w5.setCell ⟨w.heap.size + 1, 0, none⟩ (.slice o4 n4 c4)).setCell ⟨w.heap.size + 1, 1, none⟩ (.slice o5 n5 c5)) w.heap.size o1 n1 c1 l4 ∧
      Ft 2 ((w5.setCell ⟨w.heap.size + 1, 0, none⟩ (.slice o4 n4 c4)).setCell ⟨w.heap.size + 1, 1, none⟩ (.slice o5 n5 c5)) w.heap.size o2 n5 c2 l5 ∧ apart o1 o2 ∧ Below w.heap.size w ((w5.setCell ⟨w.heap.size + 1, 0, none⟩ (.slice o4 n4 c4)).setCell ⟨w.heap.size + 1, 1, none⟩ (.slice o5 n5 c5)) := by
  have s3 : W2.heap.size ≤ w3.heap.size := h3.size
  have s4 := h4.size
  have s5 := h5.size
  have a4 := f4.at
  have a5 := f5.at
  have k := set2 w5 (w.heap.size + 1) 0 1 (.slice o4 n4 c4) (.slice o5 n5 c5)
  refine ⟨o4, n4, c4, o5, c5, rfl, ((f4.below h5 (Nat.le_refl _)).keep1 k (fun b off e => ?_)).mono (by omega), (f5.keep1 k (fun b off e => ?_)).mono (by omega), ?_, below_set2 _ _ _ _ bel (by omega) (Nat.le_refl _)⟩
  · have := (a4 b off e).1; intro e'; cases e'; omega
  · have := (a5 b off e).1; intro e'; cases e'; omega
  · intro p q e1 e2
    rcases f4.own.2 with ⟨e3, _⟩ | ⟨g, c, cur, e3, hB, hg, _⟩
    · cases e3; cases e1
    · rcases f5.own.2 with ⟨e4, _⟩ | ⟨g2, c2, cur2, e4, hB2, _⟩
      · cases e4; cases e2
      · cases e3; cases e4; cases e1; cases e2
        have := (Array.getElem?_eq_some_iff.1 hg).1
        simp; omega

end Go.Proofs.Ytjnlkdeiccllgaa


namespace Go.Proofs.Ytjnlkdeiccllgaa

open Go.RowKit

set_option linter.unusedVariables false

end Go.Proofs.Ytjnlkdeiccllgaa



namespace Go.Proofs.Ytjnlkdeiccllgaa

open Go.RowKit

set_option linter.unusedVariables false

/-- The answers of Item: the error, the item's shape, its atoms. -/
def itmE (sh at' : List Int) (i : Int) : Int := if mayA sh at' ≠ 0 then 1 else if i < -tal sh ∨ tal sh ≤ i then 13 else 0
def itmJ (sh : List Int) (i : Int) : Nat := (if i < 0 then i + tal sh else i).toNat
def itmZ (sh at' : List Int) : Nat := at'.length / (tal sh).toNat
def itmS (sh at' : List Int) (i : Int) : List Int := if itmE sh at' i = 0 then sh.drop 1 else []
def itmA (sh at' : List Int) (i : Int) : List Int := if itmE sh at' i = 0 then (at'.drop (itmJ sh i * itmZ sh at')).take (itmZ sh at') else []

theorem tal_bd {sh : List Int} (h : mayF sh = 0) : 0 ≤ tal sh ∧ tal sh ≤ 4096 := by
  unfold tal
  by_cases c : sh.length = 0
  · rw [if_pos c]; omega
  · rw [if_neg c]; exact nth_small h (by omega)
theorem at_len {sh at' : List Int} (h : mayA sh at' = 0) : at'.length ≤ 4096 := by
  obtain ⟨h1, h2⟩ := mayA_zero h
  have := pr_small h1 sh.length (Nat.le_refl _)
  rw [List.take_length] at this
  omega
theorem itmE_may {sh at' : List Int} {i : Int} (h : mayA sh at' ≠ 0) : itmE sh at' i = 1 := if_pos h
theorem itmE_out {sh at' : List Int} {i : Int} (h : mayA sh at' = 0) (k : i < -tal sh ∨ tal sh ≤ i) : itmE sh at' i = 13 := by unfold itmE; rw [if_neg (by omega), if_pos k]
theorem itmE_in {sh at' : List Int} {i : Int} (h : mayA sh at' = 0) (k : ¬ (i < -tal sh ∨ tal sh ≤ i)) : itmE sh at' i = 0 := by unfold itmE; rw [if_neg (by omega), if_neg k]
theorem itm_no {sh at' : List Int} {i : Int} (h : itmE sh at' i ≠ 0) : itmS sh at' i = [] ∧ itmA sh at' i = [] := ⟨if_neg h, if_neg h⟩
theorem itm_yes {sh at' : List Int} {i : Int} (h : itmE sh at' i = 0) : itmS sh at' i = sh.drop 1 ∧ itmA sh at' i = (at'.drop (itmJ sh i * itmZ sh at')).take (itmZ sh at') := ⟨if_pos h, if_pos h⟩

theorem apart_nil (o : Option Addr) : apart none o := fun a b h => by cases h

end Go.Proofs.Ytjnlkdeiccllgaa
