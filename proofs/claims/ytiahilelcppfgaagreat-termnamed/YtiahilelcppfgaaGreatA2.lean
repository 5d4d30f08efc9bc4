
/- Contracts: whether an array may be; arrays held against one another. -/

import Derived.Test.YtiahilelcppfgaaGreatA1

namespace Go.Proofs.YtiahilelcppfgaaGreat

open Go.RowKit

set_option linter.unusedVariables false

theorem box_below (w : World) (o : Obj) : Below w.heap.size w (w.alloc o) := (Below.refl _ w).alloc (Nat.le_refl _) o

theorem allocNew (w : World) (o : Obj) : (w.alloc o).heap[w.heap.size]? = some o := by
  unfold World.alloc
  simp

/-- Two arrays, each in a box. -/
structure Two (w W : World) (so sn sc ao an ac to tn tc bo bn bc) : Prop where
  s0 : W.cell? ⟨w.heap.size, 0, none⟩ = some (.slice so sn sc)
  a0 : W.cell? ⟨w.heap.size, 1, none⟩ = some (.slice ao an ac)
  s1 : W.cell? ⟨w.heap.size + 1, 0, none⟩ = some (.slice to tn tc)
  a1 : W.cell? ⟨w.heap.size + 1, 1, none⟩ = some (.slice bo bn bc)
  bel : Below w.heap.size w W
theorem Two.drewN {w W : World} {so sn sc ao an ac to tn tc bo bn bc} (h : Two w W so sn sc ao an ac to tn tc bo bn bc) (q : Nat) : Two w (W.drewN q) so sn sc ao an ac to tn tc bo bn bc :=
  ⟨by simpa using h.s0, by simpa using h.a0, by simpa using h.s1, by simpa using h.a1, below_drewN h.bel q⟩
theorem Two.below {w W W' : World} {so sn sc ao an ac to tn tc bo bn bc} (h : Two w W so sn sc ao an ac to tn tc bo bn bc) (k : Below W.heap.size W W') : Two w W' so sn sc ao an ac to tn tc bo bn bc := by
  have l0 := World.block_lt_of_cell? W _ h.s0
  have l1 := World.block_lt_of_cell? W _ h.s1
  exact ⟨(k.cell (p := ⟨w.heap.size, 0, none⟩) l0).trans h.s0, (k.cell (p := ⟨w.heap.size, 1, none⟩) l0).trans h.a0, (k.cell (p := ⟨w.heap.size + 1, 0, none⟩) l1).trans h.s1, (k.cell (p := ⟨w.heap.size + 1, 1, none⟩) l1).trans h.a1, h.bel.trans (k.mono h.bel.size)⟩
theorem two_boxes (w : World) (so ao to bo : Option Addr) (sn sc an ac tn tc bn bc : Nat) :
    Two w ((w.alloc (.cells #[.slice so sn sc, .slice ao an ac] 28)).alloc (.cells #[.slice to tn tc, .slice bo bn bc] 28)) so sn sc ao an ac to tn tc bo bn bc := by
  have b0 := allocNew w (.cells #[.slice so sn sc, .slice ao an ac] 28)
  have b1 := allocNew (w.alloc (.cells #[.slice so sn sc, .slice ao an ac] 28)) (.cells #[.slice to tn tc, .slice bo bn bc] 28)
  have k := box_below (w.alloc (.cells #[.slice so sn sc, .slice ao an ac] 28)) (.cells #[.slice to tn tc, .slice bo bn bc] 28)
  rw [World.size_alloc] at b1
  refine ⟨(k.cell (p := ⟨w.heap.size, 0, none⟩) (by simp)).trans ((cell_of_row _ _ 0 _ _ (0, 0) b0).trans rfl), (k.cell (p := ⟨w.heap.size, 1, none⟩) (by simp)).trans ((cell_of_row _ _ 1 _ _ (0, 0) b0).trans rfl), (cell_of_row _ _ 0 _ _ (0, 0) b1).trans rfl, (cell_of_row _ _ 1 _ _ (0, 0) b1).trans rfl, (box_below w _).trans (k.mono (by simp))⟩

/-- Are two arrays the same? -/
def eqA (s a t b : List Int) : Bool := eqB s t && eqB a b
theorem eqA_sh {s a t b : List Int} (h : eqB s t = false) : eqA s a t b = false := by unfold eqA; rw [h]; rfl
theorem eqA_at {s a t b : List Int} (h : eqB s t = true) : eqA s a t b = eqB a b := by unfold eqA; rw [h]; rfl

set_option maxHeartbeats 1000000 in
theorem same_any (so ao to bo : Option Addr) (sn sc an ac tn tc bn bc : Nat) (s a t b : List Int) (w : World) (hs : Rd w so sn s) (ha : Rd w ao an a) (ht : Rd w to tn t) (hb : Rd w bo bn b) :
    Calls Tryz.prog 66 #[.agg #[.slice so sn sc, .slice ao an ac], .agg #[.slice to tn tc, .slice bo bn bc]] w fun e w' => e = .returned (.bool (eqA s a t b)) ∧ Below w.heap.size w w' := by
  have k1 := box_below w (.cells #[.slice so sn sc, .slice ao an ac] 28)
  have k2 := box_below (w.alloc (.cells #[.slice so sn sc, .slice ao an ac] 28)) (.cells #[.slice to tn tc, .slice bo bn bc] 28)
  have tw := two_boxes w so ao to bo sn sc an ac tn tc bn bc
  have hs' := (hs.below k1 (Nat.le_refl _)).below k2 (Nat.le_refl _)
  have ha' := (ha.below k1 (Nat.le_refl _)).below k2 (Nat.le_refl _)
  have ht' := (ht.below k1 (Nat.le_refl _)).below k2 (Nat.le_refl _)
  have hb' := (hb.below k1 (Nat.le_refl _)).below k2 (Nat.le_refl _)
  have e1 := slicesEqual_any so to sn tn sc tc s t _ hs' ht'
  have e2 := fun W (x : Rd W ao an a) (y : Rd W bo bn b) => slicesEqual8_any ao bo an bn ac bc a b W x y
  clear hs ha ht hb k1 k2 hs' ht'
  by_cases h : eqB s t = true
  · rw [h] at e1
    rw [eqA_at h]
    clear h
    go_enter Tryz.func66, Tryz.ntmps66
    go_wp2_with (first
      | (go_at_call 94; refine e1.mono ?_; rintro e w1 ⟨rfl, q, hw⟩; have tw1 := tw.drewN q; have ha1 := ha'.drewN q; have hb1 := hb'.drewN q; rw [← hw] at tw1 ha1 hb1; clear hw; obtain ⟨_, t2, _, t4, bel⟩ := tw1)
      | (go_at_call 95; refine (e2 _ ha1 hb1).mono ?_; rintro e w2 ⟨rfl, q2, hw2⟩; have bel2 := below_drewN bel q2; rw [← hw2] at bel2; clear hw2))
    go_ret
    exact ⟨rfl, bel2⟩
  · have h' : eqB s t = false := by simpa using h
    rw [h'] at e1
    rw [eqA_sh h']
    clear h h'
    go_enter Tryz.func66, Tryz.ntmps66
    go_wp2_with (go_at_call 94; refine e1.mono ?_; rintro e w1 ⟨rfl, q, hw⟩; have tw1 := tw.drewN q; rw [← hw] at tw1; clear hw; obtain ⟨_, t2, _, t4, bel⟩ := tw1)
    go_ret
    exact ⟨rfl, bel⟩

end Go.Proofs.YtiahilelcppfgaaGreat
