
/- Contracts of package shape's All, of what it hands out, and of the statements' own walks over it. -/

import Derived.Test.YtcknmfhbjkadcaaGreatDoorAt

namespace Go.Proofs.YtcknmfhbjkadcaaGreatDoor

open Go.RowKit

set_option linter.unusedVariables false

/-- What All hands out: how many places there are, and a list of its own. -/
structure Sq (w : World) (B1 B2 : Nat) (co : Option Addr) (n c : Nat) (zs : List Int) : Prop where
  size : Boxed w B1 3 (.int .i64 (sizeF zs))
  list : Boxed w B2 22 (.slice co n c)
  rd : Rd w co n zs

theorem Sq.below {w w' : World} {B1 B2 B : Nat} {co : Option Addr} {n c : Nat} {zs : List Int} (h : Sq w B1 B2 co n c zs) (hb : Below B w w') (hB : w.heap.size ≤ B) : Sq w' B1 B2 co n c zs :=
  ⟨(hb.block B1 (Nat.lt_of_lt_of_le h.size.lt hB)).trans h.size, (hb.block B2 (Nat.lt_of_lt_of_le h.list.lt hB)).trans h.list, h.rd.below hb hB⟩

theorem all_any (ao : Option Addr) (n cap : Nat) (zs : List Int) (w : World) (h : Rd w ao n zs) :
    Calls Tryz.prog 35 #[.slice ao n cap] w fun e w' => ∃ B1 B2 co c, e = .returned (.func (.func 53) #[] #[.pointer (some ⟨B1, 0, none⟩), .pointer (some ⟨B2, 0, none⟩)]) ∧
      Sq w' B1 B2 co n c zs ∧ Fr w' w.heap.size co n c zs ∧ w.heap.size ≤ B1 ∧ w.heap.size ≤ B2 ∧ Below w.heap.size w w' := by
  have hs := size_any ao n cap zs w h
  have h1 := h.alloc (.cells #[.int .i64 (sizeF zs)] 3)
  have hc := copied_any ao n cap zs _ h1
  have b1 := Boxed.new w 3 (.int .i64 (sizeF zs))
  have hbd := sizeF_bd zs
  go_enter Tryz.func35, Tryz.ntmps35
  go_wp2_with (first | (go_at_call 17; refine hs.mono ?_; rintro e w' ⟨rfl, hw⟩; rw [hw]; clear hw w') | (go_at_call 52; refine hc.mono ?_; rintro e w2 ⟨co, c, rfl, hf, hb⟩))
  go_ret
  have b1' : Boxed w2 w.heap.size 3 (.int .i64 (sizeF zs)) := (hb.block _ (by simp)).trans b1
  have hsz : w.heap.size + 1 ≤ w2.heap.size := by have := hb.size; simpa using this
  refine ⟨w.heap.size, w2.heap.size, co, c, rfl, ⟨b1'.alloc _, Boxed.new w2 22 _, hf.rd.alloc _⟩, (hf.kept (World.grownBy_alloc _ _ none) (by simp)).mono (by simp), Nat.le_refl _, by omega, ?_⟩
  exact (((Below.refl _ w).alloc (Nat.le_refl _) _).trans (hb.mono (by simp))).alloc (by omega) _

end Go.Proofs.YtcknmfhbjkadcaaGreatDoor
