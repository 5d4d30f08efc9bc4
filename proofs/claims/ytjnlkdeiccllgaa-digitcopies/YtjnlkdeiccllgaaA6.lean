
/- Contract: an item. -/

import Derived.Test.YtjnlkdeiccllgaaA4
import Derived.Handy
import Derived.Deep.RegionHeld3


namespace Go.Proofs.Ytjnlkdeiccllgaa

open Go.RowKit

set_option linter.unusedVariables false

theorem num1 {n : Int} (h1 : -9223372036854775808 ≤ n) (h2 : n ≤ 9223372036854775807) : ∀ k, k < [n].length → -9223372036854775808 ≤ nth [n] k ∧ nth [n] k ≤ 9223372036854775807 := by
  intro k hk
  simp at hk
  subst hk; exact ⟨h1, h2⟩

theorem scalar_any (n : Int) (w : World) (h1 : -9223372036854775808 ≤ n) (h2 : n ≤ 9223372036854775807) :
    Calls Try.prog 37 #[.int .i64 n] w fun e w' => ∃ ao c, e = .returned (.agg #[.slice none 0 0, .slice ao 1 c]) ∧ Ft 2 w' w.heap.size ao 1 c [n] ∧ Below w.heap.size w w' := by
  go_enter Try.func37, Try.ntmps37
  go_wp2
  go_returns
  refine ⟨_, _, rfl, ?_, ?_⟩
  · have := ft_new 2 (w.alloc (.cells #[.slice none 0 0, .slice (some ⟨w.heap.size + 1, 0, none⟩) 1 1] 26)) [n] (by simp) (num1 h1 h2)
    rw [World.size_alloc] at this
    exact this.mono (by omega)
  · exact (box_below w _).alloc (by simp) _

end Go.Proofs.Ytjnlkdeiccllgaa



namespace Go.Proofs.Ytjnlkdeiccllgaa

open Go.RowKit

set_option linter.unusedVariables false

/-- Between the statements of Item: its box, the answer's box, the lists. -/
structure It (w W : World) (so : Option Addr) (sn sc : Nat) (ao : Option Addr) (an ac : Nat) (sh at' : List Int) : Prop where
  c0 : W.cell? ⟨w.heap.size, 0, none⟩ = some (.slice so sn sc)
  c1 : W.cell? ⟨w.heap.size, 1, none⟩ = some (.slice ao an ac)
  r : W.heap[w.heap.size + 1]? = some (.cells #[.slice none 0 0, .slice none 0 0] 26 (0, 0))
  s : Rd W so sn sh
  a : Rd W ao an at'
  bel : Below w.heap.size w W
theorem It.below {w W W' : World} {so : Option Addr} {sn sc : Nat} {ao : Option Addr} {an ac : Nat} {sh at' : List Int} (h : It w W so sn sc ao an ac sh at') (k : Below W.heap.size W W') : It w W' so sn sc ao an ac sh at' := by
  have l0 := World.block_lt_of_cell? W _ h.c0
  have l1 := (Array.getElem?_eq_some_iff.1 h.r).1
  exact ⟨(k.cell (p := ⟨w.heap.size, 0, none⟩) l0).trans h.c0, (k.cell (p := ⟨w.heap.size, 1, none⟩) l0).trans h.c1, (k.block _ l1).trans h.r, h.s.below k (Nat.le_refl _), h.a.below k (Nat.le_refl _), h.bel.trans (k.mono h.bel.size)⟩
theorem It.drew {w W : World} {so : Option Addr} {sn sc : Nat} {ao : Option Addr} {an ac : Nat} {sh at' : List Int} (h : It w W so sn sc ao an ac sh at') : It w W.drew so sn sc ao an ac sh at' :=
  h.below (Below.refl _ W).drew
theorem it_start (w : World) (so : Option Addr) (sn sc : Nat) (ao : Option Addr) (an ac : Nat) (sh at' : List Int) (h : Rd w so sn sh) (g : Rd w ao an at') :
    It w ((w.alloc (.cells #[.slice so sn sc, .slice ao an ac] 26)).alloc (.cells #[.slice none 0 0, .slice none 0 0] 26)) so sn sc ao an ac sh at' := by
  have t := two_boxes w so ao none none sn sc an ac 0 0 0 0
  have b1 := allocNew (w.alloc (.cells #[.slice so sn sc, .slice ao an ac] 26)) (.cells #[.slice none 0 0, .slice none 0 0] 26)
  rw [World.size_alloc] at b1
  exact ⟨t.s0, t.a0, b1, h.below t.bel (Nat.le_refl _), g.below t.bel (Nat.le_refl _), t.bel⟩

end Go.Proofs.Ytjnlkdeiccllgaa
