
/- What every statement of layer 3 asks ahead answers true. -/

import Derived.Test.YthncgocjegalhaaA9

namespace Go.Proofs.Ythncgocjegalhaa

open Go.RowKit

set_option linter.unusedVariables false

/-- An array in a box. -/
structure Bx (W : World) (g : Nat) (so : Option Addr) (sn sc : Nat) (ao : Option Addr) (an ac : Nat) (sh at' : List Int) : Prop where
  c0 : W.cell? ⟨g, 0, none⟩ = some (.slice so sn sc)
  c1 : W.cell? ⟨g, 1, none⟩ = some (.slice ao an ac)
  s : Rd W so sn sh
  a : Rd W ao an at'
theorem Bx.below {W W' : World} {g : Nat} {so : Option Addr} {sn sc : Nat} {ao : Option Addr} {an ac : Nat} {sh at' : List Int} (h : Bx W g so sn sc ao an ac sh at') (k : Below W.heap.size W W') : Bx W' g so sn sc ao an ac sh at' := by
  have l0 := World.block_lt_of_cell? W _ h.c0
  exact ⟨(k.cell (p := ⟨g, 0, none⟩) l0).trans h.c0, (k.cell (p := ⟨g, 1, none⟩) l0).trans h.c1, h.s.below k (Nat.le_refl _), h.a.below k (Nat.le_refl _)⟩
theorem bx_new {W : World} {so : Option Addr} {sn sc : Nat} {ao : Option Addr} {an ac : Nat} {sh at' : List Int} (h : Rd W so sn sh) (g : Rd W ao an at') : Bx (W.alloc (.cells #[.slice so sn sc, .slice ao an ac] 36)) W.heap.size so sn sc ao an ac sh at' := by
  have b0 := allocNew W (.cells #[.slice so sn sc, .slice ao an ac] 36)
  have k := box_below W (.cells #[.slice so sn sc, .slice ao an ac] 36)
  exact ⟨(cell_of_row _ _ 0 _ _ (0, 0) b0).trans rfl, (cell_of_row _ _ 1 _ _ (0, 0) b0).trans rfl, h.below k (Nat.le_refl _), g.below k (Nat.le_refl _)⟩
theorem btw {B : Nat} {a b c : World} (h : Below B a b) (k : Below b.heap.size b c) (hB : B ≤ b.heap.size) : Below B a c := h.trans (k.mono hB)

theorem c_list (W : World) : Calls Try.prog 16 #[.slice (some ⟨W.heap.size, 0, none⟩) 3 3] (W.alloc (.cells #[.int .i64 5, .int .i64 6, .int .i64 7] 2)) fun e w' => ∃ so sc bo bc, e = .returned (.tuple #[.agg #[.slice so 1 sc, .slice bo 3 bc], .int .i64 0]) ∧ Rd w' so 1 [3] ∧ Rd w' bo 3 [5, 6, 7] ∧ Sl so 1 sc ∧ Sl bo 3 bc ∧ Below W.heap.size W w' := by
  have hf := ft_new 2 W [5, 6, 7] (by simp) (by decide)
  exact (list_any _ 3 3 [5, 6, 7] _ hf.rd hf.sl (by omega)).mono fun e w' ⟨so, sc, bo, bc, x1, x2, x3, x4, x5⟩ => ⟨so, sc, bo, bc, x1, x2.rd, x3.rd, x2.sl, x3.sl, btw (box_below W _) x5 (by simp)⟩
theorem c_item (W : World) (so bo : Option Addr) (sc bc : Nat) (h : Rd W so 1 [3]) (g : Rd W bo 3 [5, 6, 7]) (hs : Sl so 1 sc) (gs : Sl bo 3 bc) : Calls Try.prog 17 #[.agg #[.slice so 1 sc, .slice bo 3 bc], .int .i64 (-1)] W fun e w' => ∃ o1 c1 o2 c2, e = .returned (.tuple #[.agg #[.slice o1 0 c1, .slice o2 1 c2], .int .i64 0]) ∧ Rd w' o1 0 [] ∧ Rd w' o2 1 [7] ∧ Below W.heap.size W w' := by
  refine (item_any so bo 1 sc 3 bc [3] [5, 6, 7] (-1) W h hs g gs).mono fun e w' ⟨o1, n1, c1, o2, n2, c2, x1, x2, x3, x4, x5⟩ => ?_
  have e0 : itmE [3] [5, 6, 7] (-1) = 0 := by decide
  have e1 : itmS [3] [5, 6, 7] (-1) = [] := by decide
  have e2 : itmA [3] [5, 6, 7] (-1) = [7] := by decide
  rw [e0] at x1
  rw [e1] at x2
  rw [e2] at x3
  have l1 := x2.rd.len
  have l2 := x3.rd.len
  simp at l1 l2
  subst l1 l2
  exact ⟨o1, c1, o2, c2, x1, x2.rd, x3.rd, x5⟩

set_option maxHeartbeats 4000000 in
set_option maxRecDepth 20000 in
theorem begun3_any (w : World) : Calls Try.prog 5 #[] w fun e w' => e = .returned (.bool true) ∧ Below w.heap.size w w' := by
  have cs := fun W o1 c1 o2 c2 o3 c3 o4 c4 (h1 : Rd W o1 0 []) (h2 : Rd W o2 1 [7]) (h3 : Rd W o3 0 []) (h4 : Rd W o4 1 [7]) => same_any o1 o2 o3 o4 0 c1 1 c2 0 c3 1 c4 [] [7] [] [7] W h1 h2 h3 h4
  have cc := fun W o1 c1 o2 c2 o3 c3 o4 c4 (h1 : Rd W o1 0 []) (h2 : Rd W o2 1 [7]) (h3 : Rd W o3 1 [3]) (h4 : Rd W o4 3 [5, 6, 7]) => cmpA_any o1 o2 o3 o4 0 c1 1 c2 1 c3 3 c4 [] [7] [3] [5, 6, 7] W h1 h2 h3 h4
  have cm := fun W o1 c1 o2 c2 (h1 : Rd W o1 1 [3]) (h2 : Rd W o2 3 [5, 6, 7]) => mayA_any o1 o2 1 c1 3 c2 [3] [5, 6, 7] W h1 h2
  have ci := fun W o1 c1 o2 c2 (h1 : Rd W o1 1 [3]) (h2 : Rd W o2 3 [5, 6, 7]) => items_any o1 o2 1 c1 3 c2 [3] [5, 6, 7] W h1 h2
  rw [show eqA [] [7] [] [7] = true by decide] at cs
  rw [show cmpA [] [7] [3] [5, 6, 7] = -1 by decide] at cc
  rw [show mayA [3] [5, 6, 7] = 0 by decide] at cm
  rw [show itm [3] [5, 6, 7] = 3 by decide] at ci
  go_enter Try.func5, Try.ntmps5
  go_wp2_with (first
    | (go_at_call 16; refine (c_list _).mono ?_; rintro e w1 ⟨so, sc, bo, bc, rfl, r1, r2, s1, s2, h1⟩; have bl := bx_new (sc := sc) (ac := bc) r1 r2)
    | (go_at_call 17; refine (c_item _ _ _ _ _ bl.s bl.a s1 s2).mono ?_; rintro e w2 ⟨o1, c1, o2, c2, rfl, r3, r4, h2⟩; have bl2 := bl.below h2; have ba := bx_new (sc := c1) (ac := c2) r3 r4; have bl3 := bl2.below (box_below w2 (.cells #[.slice o1 0 c1, .slice o2 1 c2] 36)))
    | (go_at_call 18; refine (scalar_any 7 _ (by omega) (by omega)).mono ?_; rintro e w3 ⟨o3, c3, rfl, f3, h3⟩; have bl4 := bl3.below h3; have ba2 := ba.below h3; have hk := box_below w3 (.cells #[.slice none 0 0, .slice o3 1 c3] 36); have bs := bx_new (sc := 0) (ac := c3) (Rd.nil w3) f3.rd; have bl5 := bl4.below hk; have ba3 := ba2.below hk; obtain ⟨p1, p2, _, _⟩ := bl5; obtain ⟨p3, p4, _, _⟩ := ba3)
    | (go_at_call 19; refine (cs _ _ _ _ _ _ _ _ _ (ba2.below hk).s (ba2.below hk).a bs.s bs.a).mono ?_; rintro e w4 ⟨rfl, h4⟩; have bs4 := bs.below h4; have bl6 := (bl4.below hk).below h4; obtain ⟨q1, q2, _, q3⟩ := bs4; obtain ⟨q4, q5, _, _⟩ := bl6; obtain ⟨g7, off7, rfl, _, hc7⟩ := q3.cells (by omega); have c7 := hc7 0 (by omega); rw [Nat.add_zero] at c7; clear hc7)
    | (go_at_call 20; refine (cc _ _ _ _ _ _ _ _ _ (bs.below h4).s (bs.below h4).a ((bl4.below hk).below h4).s ((bl4.below hk).below h4).a).mono ?_; rintro e w5 ⟨rfl, h5⟩; have bl7 := ((bl4.below hk).below h4).below h5; obtain ⟨t1, t2, _, _⟩ := bl7)
    | (go_at_call 21; refine (cm _ _ _ _ _ (((bl4.below hk).below h4).below h5).s (((bl4.below hk).below h4).below h5).a).mono ?_; rintro e w6 ⟨rfl, h6⟩; have bl8 := (((bl4.below hk).below h4).below h5).below h6; obtain ⟨u1, u2, _, _⟩ := bl8)
    | (go_at_call 22; refine (ci _ _ _ _ _ ((((bl4.below hk).below h4).below h5).below h6).s ((((bl4.below hk).below h4).below h5).below h6).a).mono ?_; rintro e w7 ⟨rfl, h7⟩))
  go_ret
  refine ⟨rfl, ?_⟩
  have b := h1
  replace b : Below w.heap.size w w2 := btw (btw b (box_below _ _) b.size) h2 (by have := b.size; simp; omega)
  replace b : Below w.heap.size w w3 := btw (btw b (box_below _ _) b.size) h3 (by have := b.size; simp; omega)
  replace b := btw b hk b.size
  replace b := btw b h4 b.size
  replace b := btw b h5 b.size
  replace b := btw b h6 b.size
  exact btw b h7 b.size
end Go.Proofs.Ythncgocjegalhaa
