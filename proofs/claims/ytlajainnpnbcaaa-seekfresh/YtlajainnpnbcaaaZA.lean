
/- Rows that are made and filled, boxes of arrays, and what package digit asks of package num. -/

import Derived.Test.YtlajainnpnbcaaaA11

import Derived.Test.YtlajainnpnbcaaaC1

import Derived.Test.YtlajainnpnbcaaaA9

import Derived.Test.YtlajainnpnbcaaaBegun

import Derived.Lib.JoinLaws

import Derived.Deep.RegionHeld3

import Derived.RegionTactic

import Derived.Lib.AppendZerosOnto

import Derived.Lib.Overlaps

import Derived.Deep.RegionLaw

import Derived.Laws.AppendOwnNone

namespace Go.Proofs.Ytlajainnpnbcaaa

open Go.RowKit

set_option linter.unusedVariables false

/-- One array in its box, and a box for the answer. -/
structure UnZ (w W : World) (so : Option Addr) (sn sc : Nat) (ao : Option Addr) (an ac : Nat) : Prop where
  x : W.heap[w.heap.size]? = some (.cells #[.slice so sn sc, .slice ao an ac] 36 (0, 0))
  r : W.heap[w.heap.size + 1]? = some (.cells #[.slice none 0 0, .slice none 0 0] 36 (0, 0))
  bel : Below w.heap.size w W
theorem UnZ.sz {w W : World} {so : Option Addr} {sn sc : Nat} {ao : Option Addr} {an ac : Nat} (h : UnZ w W so sn sc ao an ac) : w.heap.size + 2 ≤ W.heap.size := by
  have := (Array.getElem?_eq_some_iff.1 h.r).1
  omega
theorem UnZ.below {w W W' : World} {so : Option Addr} {sn sc : Nat} {ao : Option Addr} {an ac B : Nat} (h : UnZ w W so sn sc ao an ac) (k : Below B W W') (hB : w.heap.size + 2 ≤ B) : UnZ w W' so sn sc ao an ac :=
  ⟨(k.block _ (by omega)).trans h.x, (k.block _ (by omega)).trans h.r, h.bel.trans (k.mono (by omega))⟩
theorem un_startZ (w : World) (so : Option Addr) (sn sc : Nat) (ao : Option Addr) (an ac : Nat) :
    UnZ w ((w.alloc (.cells #[.slice so sn sc, .slice ao an ac] 36)).alloc (.cells #[.slice none 0 0, .slice none 0 0] 36)) so sn sc ao an ac := by
  have k1 := box_below w (.cells #[.slice so sn sc, .slice ao an ac] 36)
  have b1 := allocNew w (.cells #[.slice so sn sc, .slice ao an ac] 36)
  have k2 := box_below (w.alloc (.cells #[.slice so sn sc, .slice ao an ac] 36)) (.cells #[.slice none 0 0, .slice none 0 0] 36)
  have b2 := allocNew (w.alloc (.cells #[.slice so sn sc, .slice ao an ac] 36)) (.cells #[.slice none 0 0, .slice none 0 0] 36)
  simp only [World.size_alloc] at k2 b2
  exact ⟨(k2.block _ (by omega)).trans b1, b2, k1.trans (k2.mono (by omega))⟩
/-- A result's box is written: what else there is, and the new rows. -/
theorem ft_setZ {e : TypeId} {V : World} {B b : Nat} {o : Option Addr} {n c : Nat} {zs : List Int} (h : Ft e V B o n c zs) (hb : b < B) (u v : Value) : Ft e ((V.setCell ⟨b, 0, none⟩ u).setCell ⟨b, 1, none⟩ v) B o n c zs := by
  have a := h.at
  exact h.keep1 (set2 V b 0 1 u v) (fun b' off e e' => by have := (a b' off e).1; injection e' with e'; omega)

end Go.Proofs.Ytlajainnpnbcaaa
