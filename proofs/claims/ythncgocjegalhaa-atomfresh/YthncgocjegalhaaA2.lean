
/- Contracts: whether an array may be; arrays held against one another. -/

import Derived.Test.YthncgocjegalhaaSplit2

import Derived.Test.YthncgocjegalhaaBase

import Derived.Test.YthncgocjegalhaaSize

import Derived.Test.YthncgocjegalhaaAgree

namespace Go.Proofs.Ythncgocjegalhaa

open Go.RowKit

set_option linter.unusedVariables false

/-- May an array be? -/
def mayA (sh at' : List Int) : Int := if mayF sh ≠ 0 then mayF sh else if (at'.length : Int) ≠ pr sh then 1 else 0
theorem mayA_sh {sh at' : List Int} (h : mayF sh ≠ 0) : mayA sh at' = mayF sh := if_pos h
theorem mayA_no {sh at' : List Int} (h : mayF sh = 0) (k : (at'.length : Int) ≠ pr sh) : mayA sh at' = 1 := by unfold mayA; rw [if_neg (by omega), if_pos k]
theorem mayA_ok {sh at' : List Int} (h : mayF sh = 0) (k : (at'.length : Int) = pr sh) : mayA sh at' = 0 := by unfold mayA; rw [if_neg (by omega), if_neg (by omega)]
theorem mayA_zero {sh at' : List Int} (h : mayA sh at' = 0) : mayF sh = 0 ∧ (at'.length : Int) = pr sh := by
  unfold mayA at h
  by_cases c : mayF sh = 0
  · rw [if_neg (by omega)] at h
    by_cases d : (at'.length : Int) = pr sh
    · exact ⟨c, d⟩
    · rw [if_pos d] at h; omega
  · rw [if_pos c] at h; omega

theorem box_below (w : World) (o : Obj) : Below w.heap.size w (w.alloc o) := (Below.refl _ w).alloc (Nat.le_refl _) o

set_option maxHeartbeats 1000000 in
theorem mayA_any (so ao : Option Addr) (sn sc an ac : Nat) (sh at' : List Int) (w : World) (h : Rd w so sn sh) (g : Rd w ao an at') :
    Calls Try.prog 21 #[.agg #[.slice so sn sc, .slice ao an ac]] w fun e w' => e = .returned (.int .i64 (mayA sh at')) ∧ Below w.heap.size w w' := by
  have groom := g.room
  have GL : Hid (at'.length = an) := g.len
  have hb := box_below w (.cells #[.slice so sn sc, .slice ao an ac] 36)
  have hz := size_any so sn sc sh _ (h.below hb (Nat.le_refl _))
  have bd := sizeF_bd sh
  by_cases h0 : mayF sh = 0
  · rw [h0] at hz
    have H0 : Hid (mayF sh = 0) := h0
    have HP : Hid (sizeF sh = pr sh) := sizeF_ok h0
    clear h0
    generalize sizeF sh = z at *
    by_cases hn : (an : Int) = z
    · have hn' : ((an : Int) != z) = false := by simpa using hn
      have HN : Hid ((an : Int) = z) := hn
      clear hn
      go_enter Try.func21, Try.ntmps21
      go_wp2_with (go_at_call 39; refine hz.mono ?_; rintro e w' ⟨rfl, rfl⟩)
      go_ret
      exact ⟨ret_int (mayA_ok H0.out (by rw [GL.out, HN.out, HP.out])).symm, hb⟩
    · have hn' : ((an : Int) != z) = true := by simpa using hn
      have HN : Hid ((an : Int) ≠ z) := hn
      clear hn
      go_enter Try.func21, Try.ntmps21
      go_wp2_with (go_at_call 39; refine hz.mono ?_; rintro e w' ⟨rfl, rfl⟩)
      go_ret
      exact ⟨ret_int (mayA_no H0.out (by rw [GL.out, ← HP.out]; exact HN.out)).symm, hb⟩
  · have h0' : (mayF sh != 0) = true := by simpa using h0
    have H0 : Hid (mayF sh ≠ 0) := h0
    clear h0
    go_enter Try.func21, Try.ntmps21
    go_wp2_with (go_at_call 39; refine hz.mono ?_; rintro e w' ⟨rfl, rfl⟩)
    go_ret
    exact ⟨ret_int (mayA_sh H0.out).symm, hb⟩

theorem allocNew (w : World) (o : Obj) : (w.alloc o).heap[w.heap.size]? = some o := by
  unfold World.alloc
  simp

/-- Two arrays, each in a box. -/
structure Two (w W : World) (so sn sc ao an ac to tn tc bo bn bc) : Prop where
  s0 : W.cell? ⟨w.heap.size, 0, none⟩ = some (.slice so sn sc)
  a0 : W.cell? ⟨w.heap.size, 1, none⟩ = some (.slice ao an ac)
  s1 : W.cell? ⟨w.heap.size + 1, 0, none⟩ = some (.slice to tn tc)
  a1 : W.cell? ⟨w.heap.size + 1, 1, none⟩ = some (.slice bo bn bc)
  bel : Below w.heap.size w W
theorem Two.drewN {w W : World} {so sn sc ao an ac to tn tc bo bn bc} (h : Two w W so sn sc ao an ac to tn tc bo bn bc) (q : Nat) : Two w (W.drewN q) so sn sc ao an ac to tn tc bo bn bc :=
  ⟨by simpa using h.s0, by simpa using h.a0, by simpa using h.s1, by simpa using h.a1, below_drewN h.bel q⟩
theorem Two.below {w W W' : World} {so sn sc ao an ac to tn tc bo bn bc} (h : Two w W so sn sc ao an ac to tn tc bo bn bc) (k : Below W.heap.size W W') : Two w W' so sn sc ao an ac to tn tc bo bn bc := by
  have l0 := World.block_lt_of_cell? W _ h.s0
  have l1 := World.block_lt_of_cell? W _ h.s1
  exact ⟨(k.cell (p := ⟨w.heap.size, 0, none⟩) l0).trans h.s0, (k.cell (p := ⟨w.heap.size, 1, none⟩) l0).trans h.a0, (k.cell (p := ⟨w.heap.size + 1, 0, none⟩) l1).trans h.s1, (k.cell (p := ⟨w.heap.size + 1, 1, none⟩) l1).trans h.a1, h.bel.trans (k.mono h.bel.size)⟩
theorem two_boxes (w : World) (so ao to bo : Option Addr) (sn sc an ac tn tc bn bc : Nat) :
    Two w ((w.alloc (.cells #[.slice so sn sc, .slice ao an ac] 36)).alloc (.cells #[.slice to tn tc, .slice bo bn bc] 36)) so sn sc ao an ac to tn tc bo bn bc := by
  have b0 := allocNew w (.cells #[.slice so sn sc, .slice ao an ac] 36)
  have b1 := allocNew (w.alloc (.cells #[.slice so sn sc, .slice ao an ac] 36)) (.cells #[.slice to tn tc, .slice bo bn bc] 36)
  have k := box_below (w.alloc (.cells #[.slice so sn sc, .slice ao an ac] 36)) (.cells #[.slice to tn tc, .slice bo bn bc] 36)
  rw [World.size_alloc] at b1
  refine ⟨(k.cell (p := ⟨w.heap.size, 0, none⟩) (by simp)).trans ((cell_of_row _ _ 0 _ _ (0, 0) b0).trans rfl), (k.cell (p := ⟨w.heap.size, 1, none⟩) (by simp)).trans ((cell_of_row _ _ 1 _ _ (0, 0) b0).trans rfl), (cell_of_row _ _ 0 _ _ (0, 0) b1).trans rfl, (cell_of_row _ _ 1 _ _ (0, 0) b1).trans rfl, (box_below w _).trans (k.mono (by simp))⟩

/-- Are two arrays the same? -/
def eqA (s a t b : List Int) : Bool := eqB s t && eqB a b
theorem eqA_sh {s a t b : List Int} (h : eqB s t = false) : eqA s a t b = false := by unfold eqA; rw [h]; rfl
end Go.Proofs.Ythncgocjegalhaa
