
/- What every statement of layer 4 asks ahead answers true. -/

import Derived.Test.YtjllmfahmlfljaaF1

namespace Go.Proofs.Ytjllmfahmlfljaa

open Go.RowKit Go.Deep

set_option linter.unusedVariables false

theorem cellB {B : Nat} {w w' : World} (k : Below B w w') {a : Addr} {v : Value} (e : w.cell? a = some v) (h : w.heap.size ≤ B) : w'.cell? a = some v := (k.cell (Nat.lt_of_lt_of_le (World.block_lt_of_cell? w _ e) h)).trans e
theorem b4_box {W V : World} (o : Obj) (h : Below W.heap.size W V) : Below W.heap.size W (V.alloc o) := btw h (box_below _ _) h.size
theorem b4_boxd {W V : World} (o : Obj) (h : Below W.heap.size W V) : Below W.heap.size W (V.alloc o).drew := (b4_box o h).drew

theorem c4_joinL (V : World) : Calls Try.prog 15 #[.slice (some ⟨V.heap.size, 0, none⟩) 1 1, .slice (some ⟨V.heap.size + 1 + 1 + 1 + 1, 0, none⟩) 2 2] (((((V.alloc (.cells #[.int .i64 2] 3)).alloc (.cells #[.int .i64 1] 2)).alloc (.cells #[.int .i64 2] 3)).alloc (.cells #[.int .i64 3, .int .i64 4] 2)).alloc (.cells #[.slice none 0 0, .slice (some ⟨V.heap.size + 1, 0, none⟩) 1 1, .slice (some ⟨V.heap.size + 1 + 1, 0, none⟩) 1 1, .slice (some ⟨V.heap.size + 1 + 1 + 1, 0, none⟩) 2 2] 25)) fun e w' => ∃ o1 n1 c1 o2 n2 c2, e = .returned (.tuple #[.agg #[.slice o1 n1 c1, .slice o2 n2 c2], .int .i64 0]) ∧ Rd w' o2 n2 [1, 0, 3, 4] ∧ Below V.heap.size V w' := by
  have f1 := ft_new 3 V [2] (by simp) (by decide)
  have f2 := ft_new 2 (V.alloc (.cells #[.int .i64 2] 3)) [1] (by simp) (by decide)
  have f3 := ft_new 3 ((V.alloc (.cells #[.int .i64 2] 3)).alloc (.cells #[.int .i64 1] 2)) [2] (by simp) (by decide)
  have f4 := ft_new 2 (((V.alloc (.cells #[.int .i64 2] 3)).alloc (.cells #[.int .i64 1] 2)).alloc (.cells #[.int .i64 2] 3)) [3, 4] (by simp) (by decide)
  have g3 := f3.below (box_below _ (.cells #[.int .i64 3, .int .i64 4] 2)) (Nat.le_refl _)
  have g2 := (f2.below (box_below _ (.cells #[.int .i64 2] 3)) (Nat.le_refl _)).below (box_below _ (.cells #[.int .i64 3, .int .i64 4] 2)) (Nat.le_refl _)
  have g1 := ((f1.below (box_below _ (.cells #[.int .i64 1] 2)) (Nat.le_refl _)).below (box_below _ (.cells #[.int .i64 2] 3)) (Nat.le_refl _)).below (box_below _ (.cells #[.int .i64 3, .int .i64 4] 2)) (Nat.le_refl _)
  simp only [World.size_alloc, List.map_cons, List.map_nil, List.length_cons, List.length_nil, Nat.zero_add, Nat.reduceAdd] at f4 g1 g2 g3
  have ha := as_lit ((((V.alloc (.cells #[.int .i64 2] 3)).alloc (.cells #[.int .i64 1] 2)).alloc (.cells #[.int .i64 2] 3)).alloc (.cells #[.int .i64 3, .int .i64 4] 2)) _ _ _ g2.rd g2.sl g3.rd g3.sl f4.rd f4.sl
  have hf := g1.below (box_below _ (.cells #[.slice none 0 0, .slice (some ⟨V.heap.size + 1, 0, none⟩) 1 1, .slice (some ⟨V.heap.size + 1 + 1, 0, none⟩) 1 1, .slice (some ⟨V.heap.size + 1 + 1 + 1, 0, none⟩) 2 2] 25)) (Nat.le_refl _)
  simp only [World.size_alloc] at ha
  have b : Below V.heap.size V (((((V.alloc (.cells #[.int .i64 2] 3)).alloc (.cells #[.int .i64 1] 2)).alloc (.cells #[.int .i64 2] 3)).alloc (.cells #[.int .i64 3, .int .i64 4] 2)).alloc (.cells #[.slice none 0 0, .slice (some ⟨V.heap.size + 1, 0, none⟩) 1 1, .slice (some ⟨V.heap.size + 1 + 1, 0, none⟩) 1 1, .slice (some ⟨V.heap.size + 1 + 1 + 1, 0, none⟩) 2 2] 25)) := b4_box _ (b4_box _ (b4_box _ (b4_box _ (box_below V _))))
  refine (c4_join _ _ _ 1 2 hf.rd hf.sl ha).mono fun e w' ⟨o1, n1, c1, o2, n2, c2, x1, x2, x3⟩ => ⟨o1, n1, c1, o2, n2, c2, x1, x2, btw b x3 b.size⟩

theorem eqlit (V : World) (zs : List Int) (hl : zs.length ≤ 100) (hn : ∀ k, k < zs.length → -9223372036854775808 ≤ nth zs k ∧ nth zs k ≤ 9223372036854775807) (x : Option Addr) (y z : Nat) (h : Rd (V.alloc (.cells (zs.map (Value.int .i64)).toArray 2)) x y zs) :
    Calls Try.prog 22 #[.slice x y z, .slice (some ⟨V.heap.size, 0, none⟩) zs.length zs.length] (V.alloc (.cells (zs.map (Value.int .i64)).toArray 2)) fun e w' => e = .returned (.bool true) ∧ Below (V.alloc (.cells (zs.map (Value.int .i64)).toArray 2)).heap.size (V.alloc (.cells (zs.map (Value.int .i64)).toArray 2)) w' := by
  have f := ft_new 2 V zs hl hn
  refine (eqAtoms_any _ _ _ _ _ _ zs zs _ h f.rd).mono fun e w' ⟨x1, q, x2⟩ => ⟨by rw [x1, eqB_refl], x2 ▸ below_drewN (Below.refl _ _) _⟩
theorem eqlit' (V : World) (zs : List Int) (hl : zs.length ≤ 100) (hn : ∀ k, k < zs.length → -9223372036854775808 ≤ nth zs k ∧ nth zs k ≤ 9223372036854775807) (x : Option Addr) (y z : Nat) (h : Rd (V.alloc (.cells (zs.map (Value.int .i64)).toArray 2)).drew x y zs) :
    Calls Try.prog 22 #[.slice x y z, .slice (some ⟨V.heap.size, 0, none⟩) zs.length zs.length] (V.alloc (.cells (zs.map (Value.int .i64)).toArray 2)).drew fun e w' => e = .returned (.bool true) ∧ Below (V.alloc (.cells (zs.map (Value.int .i64)).toArray 2)).drew.heap.size (V.alloc (.cells (zs.map (Value.int .i64)).toArray 2)).drew w' := by
  have f := (ft_new 2 V zs hl hn).below (Below.refl _ (V.alloc (.cells (zs.map (Value.int .i64)).toArray 2))).drew (Nat.le_refl _)
  refine (eqAtoms_any _ _ _ _ _ _ zs zs _ h f.rd).mono fun e w' ⟨x1, q, x2⟩ => ⟨by rw [x1, eqB_refl], x2 ▸ below_drewN (Below.refl _ _) _⟩
theorem eqpcs (V : World) (B : Nat) (po : Option Addr) (pc : Nat) (h : Pf (V.alloc (.cells #[.int .i64 0, .int .i64 1, .int .i64 1, .int .i64 1] 57)) B po 2 pc (fun j => ((j : Int), 1))) :
    Calls Try.prog 40 #[.slice po 2 pc, .slice (some ⟨V.heap.size, 0, none⟩) 2 2] (V.alloc (.cells #[.int .i64 0, .int .i64 1, .int .i64 1, .int .i64 1] 57)) fun e w' => e = .returned (.bool true) ∧ Below (V.alloc (.cells #[.int .i64 0, .int .i64 1, .int .i64 1, .int .i64 1] 57)).heap.size (V.alloc (.cells #[.int .i64 0, .int .i64 1, .int .i64 1, .int .i64 1] 57)) w' :=
  (eqPieces_true _ _ _ _ _ _ _ _ _ _ h (pf_lit V) (fun k _ => rfl) (by omega)).mono fun e w' ⟨x1, q, x2⟩ => ⟨x1, x2 ▸ below_drewN (Below.refl _ _) _⟩
theorem eqpcs' (V : World) (B : Nat) (po : Option Addr) (pc : Nat) (h : Pf (V.alloc (.cells #[.int .i64 0, .int .i64 1, .int .i64 1, .int .i64 1] 57)).drew B po 2 pc (fun j => ((j : Int), 1))) :
    Calls Try.prog 40 #[.slice po 2 pc, .slice (some ⟨V.heap.size, 0, none⟩) 2 2] (V.alloc (.cells #[.int .i64 0, .int .i64 1, .int .i64 1, .int .i64 1] 57)).drew fun e w' => e = .returned (.bool true) ∧ Below (V.alloc (.cells #[.int .i64 0, .int .i64 1, .int .i64 1, .int .i64 1] 57)).drew.heap.size (V.alloc (.cells #[.int .i64 0, .int .i64 1, .int .i64 1, .int .i64 1] 57)).drew w' :=
  (eqPieces_true _ _ _ _ _ _ _ _ _ _ h ((pf_lit V).below (Below.refl _ _).drew (Nat.le_refl _)) (fun k _ => rfl) (by omega)).mono fun e w' ⟨x1, q, x2⟩ => ⟨x1, x2 ▸ below_drewN (Below.refl _ _) _⟩
theorem eqemp (V : World) (so ao : Option Addr) (sn sc an ac : Nat) (h : Rd (V.alloc (.cells #[.int .i64 0] 3)) so sn [0]) (g : Rd (V.alloc (.cells #[.int .i64 0] 3)) ao an []) :
    Calls Try.prog 14 #[.agg #[.slice so sn sc, .slice ao an ac], .agg #[.slice (some ⟨V.heap.size, 0, none⟩) 1 1, .slice none 0 0]] (V.alloc (.cells #[.int .i64 0] 3)) fun e w' => e = .returned (.bool true) ∧ Below (V.alloc (.cells #[.int .i64 0] 3)).heap.size (V.alloc (.cells #[.int .i64 0] 3)) w' := by
  have f := ft_new 3 V [0] (by simp) (by decide)
  have := eq4_any so ao _ none sn sc an ac 1 1 0 0 [0] [] [0] [] _ h g f.rd (Rd.nil _)
  rwa [eqA_refl] at this
theorem eqemp' (V : World) (so ao : Option Addr) (sn sc an ac : Nat) (h : Rd (V.alloc (.cells #[.int .i64 0] 3)).drew so sn [0]) (g : Rd (V.alloc (.cells #[.int .i64 0] 3)).drew ao an []) :
    Calls Try.prog 14 #[.agg #[.slice so sn sc, .slice ao an ac], .agg #[.slice (some ⟨V.heap.size, 0, none⟩) 1 1, .slice none 0 0]] (V.alloc (.cells #[.int .i64 0] 3)).drew fun e w' => e = .returned (.bool true) ∧ Below (V.alloc (.cells #[.int .i64 0] 3)).drew.heap.size (V.alloc (.cells #[.int .i64 0] 3)).drew w' := by
  have f := (ft_new 3 V [0] (by simp) (by decide)).below (Below.refl _ _).drew (Nat.le_refl _)
  have := eq4_any so ao _ none sn sc an ac 1 1 0 0 [0] [] [0] [] _ h g f.rd (Rd.nil _)
  rwa [eqA_refl] at this
theorem eqall (V : World) (so ao tp bo : Option Addr) (sn sc an ac tc bc : Nat) (h : Rd V so sn [1, 2, 3]) (g : Rd V ao an [1, 2, 3, 4, 5, 6]) (p : Rd V tp 3 [1, 2, 3]) (q : Rd V bo 6 [1, 2, 3, 4, 5, 6]) :
    Calls Try.prog 14 #[.agg #[.slice so sn sc, .slice ao an ac], .agg #[.slice tp 3 tc, .slice bo 6 bc]] V fun e w' => e = .returned (.bool true) ∧ Below V.heap.size V w' := by
  have := eq4_any so ao tp bo sn sc an ac 3 tc 6 bc _ _ _ _ _ h g p q
  rwa [eqA_refl] at this

/-- What lies in memory when layer 4's own questions are asked. -/
structure Bg (w W : World) (b1 b2 b3 b5 b6 gg B : Nat) (x0 o4 o6 po o9 o10 o11 o12 : Option Addr) (y0 z0 n4 c4 n6 c6 pc n9 c9 n10 c10 n11 c11 n12 c12 : Nat) : Prop where
  l1 : W.cell? ⟨b1, 1, none⟩ = some (.slice (some ⟨gg, 0, none⟩) 2 2)
  l2 : W.cell? ⟨gg, 3, none⟩ = some (.slice x0 y0 z0)
  l3 : W.cell? ⟨b2, 1, none⟩ = some (.slice o4 n4 c4)
  l4 : W.cell? ⟨b3, 1, none⟩ = some (.slice o6 n6 c6)
  l5 : W.cell? ⟨b5, 0, none⟩ = some (.slice o9 n9 c9)
  l6 : W.cell? ⟨b5, 1, none⟩ = some (.slice o10 n10 c10)
  l7 : W.cell? ⟨b6, 0, none⟩ = some (.slice o11 n11 c11)
  l8 : W.cell? ⟨b6, 1, none⟩ = some (.slice o12 n12 c12)
  r1 : Rd W x0 y0 [4, 5, 6]
  r2 : Rd W o4 n4 [1, 0, 3, 4]
  r3 : Rd W o6 n6 [4, 5, 6]
  r4 : Pf W B po 2 pc (fun j => ((j : Int), 1))
  r5 : Rd W o9 n9 [0]
  r6 : Rd W o10 n10 []
  r7 : Rd W o11 n11 [1, 2, 3]
  r8 : Rd W o12 n12 [1, 2, 3, 4, 5, 6]
  bel : Below w.heap.size w W
theorem Bg.below {w W : World} {b1 b2 b3 b5 b6 gg B : Nat} {x0 o4 o6 po o9 o10 o11 o12 : Option Addr} {y0 z0 n4 c4 n6 c6 pc n9 c9 n10 c10 n11 c11 n12 c12 : Nat} {V : World} (h : Bg w W b1 b2 b3 b5 b6 gg B x0 o4 o6 po o9 o10 o11 o12 y0 z0 n4 c4 n6 c6 pc n9 c9 n10 c10 n11 c11 n12 c12) (k : Below W.heap.size W V) : Bg w V b1 b2 b3 b5 b6 gg B x0 o4 o6 po o9 o10 o11 o12 y0 z0 n4 c4 n6 c6 pc n9 c9 n10 c10 n11 c11 n12 c12 :=
  have c : ∀ a v, W.cell? a = some v → V.cell? a = some v := fun a v e => cellB k e (Nat.le_refl _)
  ⟨c _ _ h.l1, c _ _ h.l2, c _ _ h.l3, c _ _ h.l4, c _ _ h.l5, c _ _ h.l6, c _ _ h.l7, c _ _ h.l8, h.r1.below k (Nat.le_refl _), h.r2.below k (Nat.le_refl _), h.r3.below k (Nat.le_refl _), h.r4.below k (Nat.le_refl _), h.r5.below k (Nat.le_refl _), h.r6.below k (Nat.le_refl _), h.r7.below k (Nat.le_refl _), h.r8.below k (Nat.le_refl _), btw h.bel k h.bel.size⟩
theorem Bg.all {w V : World} {b1 b2 b3 b5 b6 gg B : Nat} {x0 o4 o6 po o9 o10 o11 o12 : Option Addr} {y0 z0 n4 c4 n6 c6 pc n9 c9 n10 c10 n11 c11 n12 c12 : Nat} (h : Bg w V b1 b2 b3 b5 b6 gg B x0 o4 o6 po o9 o10 o11 o12 y0 z0 n4 c4 n6 c6 pc n9 c9 n10 c10 n11 c11 n12 c12) : V.cell? ⟨b1, 1, none⟩ = some (.slice (some ⟨gg, 0, none⟩) 2 2) ∧ V.cell? ⟨gg, 3, none⟩ = some (.slice x0 y0 z0) ∧ V.cell? ⟨b2, 1, none⟩ = some (.slice o4 n4 c4) ∧ V.cell? ⟨b3, 1, none⟩ = some (.slice o6 n6 c6) ∧ V.cell? ⟨b5, 0, none⟩ = some (.slice o9 n9 c9) ∧ V.cell? ⟨b5, 1, none⟩ = some (.slice o10 n10 c10) ∧ V.cell? ⟨b6, 0, none⟩ = some (.slice o11 n11 c11) ∧ V.cell? ⟨b6, 1, none⟩ = some (.slice o12 n12 c12) ∧ Bg w V b1 b2 b3 b5 b6 gg B x0 o4 o6 po o9 o10 o11 o12 y0 z0 n4 c4 n6 c6 pc n9 c9 n10 c10 n11 c11 n12 c12 := ⟨h.l1, h.l2, h.l3, h.l4, h.l5, h.l6, h.l7, h.l8, h⟩
theorem Bg.drew {w V : World} {b1 b2 b3 b5 b6 gg B : Nat} {x0 o4 o6 po o9 o10 o11 o12 : Option Addr} {y0 z0 n4 c4 n6 c6 pc n9 c9 n10 c10 n11 c11 n12 c12 : Nat} (h : Bg w V b1 b2 b3 b5 b6 gg B x0 o4 o6 po o9 o10 o11 o12 y0 z0 n4 c4 n6 c6 pc n9 c9 n10 c10 n11 c11 n12 c12) : Bg w V.drew b1 b2 b3 b5 b6 gg B x0 o4 o6 po o9 o10 o11 o12 y0 z0 n4 c4 n6 c6 pc n9 c9 n10 c10 n11 c11 n12 c12 := h.below (Below.refl _ _).drew
theorem Bg.box {w V : World} {b1 b2 b3 b5 b6 gg B : Nat} {x0 o4 o6 po o9 o10 o11 o12 : Option Addr} {y0 z0 n4 c4 n6 c6 pc n9 c9 n10 c10 n11 c11 n12 c12 : Nat} (o : Obj) (h : Bg w V b1 b2 b3 b5 b6 gg B x0 o4 o6 po o9 o10 o11 o12 y0 z0 n4 c4 n6 c6 pc n9 c9 n10 c10 n11 c11 n12 c12) : Bg w (V.alloc o) b1 b2 b3 b5 b6 gg B x0 o4 o6 po o9 o10 o11 o12 y0 z0 n4 c4 n6 c6 pc n9 c9 n10 c10 n11 c11 n12 c12 := h.below (box_below _ _)
theorem c4_tabA (V : World) : Calls Try.prog 39 #[] (V.alloc (.cells #[.int .i64 1, .int .i64 2, .int .i64 3] 3)) fun e w' => ∃ u1 u2, e = .returned (.agg #[.slice (some u1) 2 2, .slice (some u2) 6 6]) ∧ Rd w' (some u2) 6 [1, 2, 3, 4, 5, 6] ∧ Rd w' (some ⟨V.heap.size, 0, none⟩) 3 [1, 2, 3] ∧ Below (V.alloc (.cells #[.int .i64 1, .int .i64 2, .int .i64 3] 3)).heap.size (V.alloc (.cells #[.int .i64 1, .int .i64 2, .int .i64 3] 3)) w' :=
  (table_any _).mono fun e w' ⟨u1, u2, x1, x2, x3, x4, x5, x6⟩ => ⟨u1, u2, x1, x4, (ft_new 3 V [1, 2, 3] (by simp) (by decide)).rd.below x6 (Nat.le_refl _), x6⟩
theorem c4_tabA' (V : World) : Calls Try.prog 39 #[] (V.alloc (.cells #[.int .i64 1, .int .i64 2, .int .i64 3] 3)).drew fun e w' => ∃ u1 u2, e = .returned (.agg #[.slice (some u1) 2 2, .slice (some u2) 6 6]) ∧ Rd w' (some u2) 6 [1, 2, 3, 4, 5, 6] ∧ Rd w' (some ⟨V.heap.size, 0, none⟩) 3 [1, 2, 3] ∧ Below (V.alloc (.cells #[.int .i64 1, .int .i64 2, .int .i64 3] 3)).drew.heap.size (V.alloc (.cells #[.int .i64 1, .int .i64 2, .int .i64 3] 3)).drew w' :=
  (table_any _).mono fun e w' ⟨u1, u2, x1, x2, x3, x4, x5, x6⟩ => ⟨u1, u2, x1, x4, ((ft_new 3 V [1, 2, 3] (by simp) (by decide)).below (Below.refl _ _).drew (Nat.le_refl _)).rd.below x6 (Nat.le_refl _), x6⟩
theorem eqallL (V : World) (so ao bo : Option Addr) (sn sc an ac bc : Nat) (h : Rd (V.alloc (.cells #[.int .i64 1, .int .i64 2, .int .i64 3] 3)) so sn [1, 2, 3]) (g : Rd (V.alloc (.cells #[.int .i64 1, .int .i64 2, .int .i64 3] 3)) ao an [1, 2, 3, 4, 5, 6]) (q : Rd V bo 6 [1, 2, 3, 4, 5, 6]) :
    Calls Try.prog 14 #[.agg #[.slice so sn sc, .slice ao an ac], .agg #[.slice (some ⟨V.heap.size, 0, none⟩) 3 3, .slice bo 6 bc]] (V.alloc (.cells #[.int .i64 1, .int .i64 2, .int .i64 3] 3)) fun e w' => e = .returned (.bool true) ∧ Below (V.alloc (.cells #[.int .i64 1, .int .i64 2, .int .i64 3] 3)).heap.size (V.alloc (.cells #[.int .i64 1, .int .i64 2, .int .i64 3] 3)) w' :=
  eqall _ _ _ _ _ _ _ _ _ _ _ h g (ft_new 3 V [1, 2, 3] (by simp) (by decide)).rd (q.below (box_below _ _) (Nat.le_refl _))
theorem eqallL' (V : World) (so ao bo : Option Addr) (sn sc an ac bc : Nat) (h : Rd (V.alloc (.cells #[.int .i64 1, .int .i64 2, .int .i64 3] 3)).drew so sn [1, 2, 3]) (g : Rd (V.alloc (.cells #[.int .i64 1, .int .i64 2, .int .i64 3] 3)).drew ao an [1, 2, 3, 4, 5, 6]) (q : Rd V bo 6 [1, 2, 3, 4, 5, 6]) :
    Calls Try.prog 14 #[.agg #[.slice so sn sc, .slice ao an ac], .agg #[.slice (some ⟨V.heap.size, 0, none⟩) 3 3, .slice bo 6 bc]] (V.alloc (.cells #[.int .i64 1, .int .i64 2, .int .i64 3] 3)).drew fun e w' => e = .returned (.bool true) ∧ Below (V.alloc (.cells #[.int .i64 1, .int .i64 2, .int .i64 3] 3)).drew.heap.size (V.alloc (.cells #[.int .i64 1, .int .i64 2, .int .i64 3] 3)).drew w' :=
  eqall _ _ _ _ _ _ _ _ _ _ _ h g ((ft_new 3 V [1, 2, 3] (by simp) (by decide)).below (Below.refl _ _).drew (Nat.le_refl _)).rd ((q.below (box_below _ _) (Nat.le_refl _)).below (Below.refl _ _).drew (Nat.le_refl _))

set_option maxHeartbeats 8000000 in
set_option maxRecDepth 20000 in
theorem begun4_any (w : World) : Calls Try.prog 9 #[] w fun e w' => e = .returned (.bool true) ∧ Below w.heap.size w w' := by
  have hfd : ∀ (u1 u2 : Addr) (w : World), (Instr.field 25 (.agg #[.slice (some u1) 2 2, .slice (some u2) 6 6]) 1).run Try.prog w = .ok (.slice (some u2) 6 6) w := fun _ _ _ => by kernel_rfl
  go_enter Try.func9, Try.ntmps9
  go_wp2_with (first
    | (go_at_call 39; (with_reducible refine (table_any w).mono ?_); rintro e W1 ⟨s1, a1, rfl, r1, z1, q1, y1, k1⟩)
    | (go_at_call 10; (with_reducible refine (c4_one W1 _ _ _ _ r1 z1 q1 y1).mono ?_); rintro e W2 ⟨fo, fn, fc, gg, o1, n1, c1, o2, n2, c2, x0, y0, z0, rfl, hc1, rc1, k2⟩; have cj := c4_joinL (W2.alloc (.cells #[.slice fo fn fc, .slice (some ⟨gg, 0, none⟩) 2 2, .slice o1 n1 c1, .slice o2 n2 c2] 29)); simp only [World.size_alloc] at cj)
    | (go_at_call 15; (with_reducible refine cj.mono ?_); rintro e W3 ⟨o3, n3, c3, o4, n4, c4, rfl, rj, k3⟩; clear cj)
    | (go_at_call 39; (with_reducible refine (table_any (W3.alloc (.cells #[.slice o3 n3 c3, .slice o4 n4 c4] 25))).mono ?_); rintro e W4 ⟨s2, a2, rfl, r2, z2, q2, y2, k4⟩)
    | (go_at_call 21; (with_reducible refine (c4_part W4 _ _ _ _ r2 z2 q2 y2).mono ?_); rintro e W5 ⟨o5, n5, c5, o6, n6, c6, rfl, rp, k5⟩)
    | (go_at_call 39; (with_reducible refine (table_any (W5.alloc (.cells #[.slice o5 n5 c5, .slice o6 n6 c6] 25))).mono ?_); rintro e W6 ⟨s3, a3, rfl, r3, z3, q3, y3, k6⟩)
    | (go_at_call 23; (with_reducible refine (c4_pieces W6 _ _ _ _ r3 z3 q3).mono ?_); rintro e W7 ⟨po, pc, o7, n7, c7, o8, n8, c8, rfl, rl, k7⟩; have tz := table_any ((W7.alloc (.cells #[.slice o7 n7 c7, .slice o8 n8 c8] 25)).alloc (.cells #[.int .i64 0] 3)))
    | (go_at_call 39; (with_reducible refine tz.mono ?_); rintro e W8 ⟨s4, a4, rfl, r4, z4, q4, y4, k8⟩; clear tz; have f0 := (ft_new 3 (W7.alloc (.cells #[.slice o7 n7 c7, .slice o8 n8 c8] 25)) [0] (by simp) (by decide)).below k8 (Nat.le_refl _); simp only [World.size_alloc] at f0)
    | (go_at_call 13; (with_reducible refine (c4_empty W8 _ _ _ _ _ _ f0.rd f0.sl r4 z4 q4).mono ?_); rintro e W9 ⟨o9, n9, c9, o10, n10, c10, rfl, re1, re2, k9⟩; have f1 := ft_new 3 (W9.alloc (.cells #[.slice o9 n9 c9, .slice o10 n10 c10] 25)) [1] (by simp) (by decide); have cb := c4_begin ((W9.alloc (.cells #[.slice o9 n9 c9, .slice o10 n10 c10] 25)).alloc (.cells #[.int .i64 1] 3)) _ _ f1.rd f1.sl; simp only [World.size_alloc, List.length_cons, List.length_nil, Nat.zero_add] at cb)
    | (go_at_call 24; (with_reducible refine cb.mono ?_); rintro e W10 ⟨jb, jo, jc, rfl, J, k10⟩; clear cb; have m1 : W10.cell? ⟨W2.heap.size, 1, none⟩ = some (.slice (some ⟨gg, 0, none⟩) 2 2) := (cellB k10 (cellB (box_below _ (.cells #[.int .i64 1] 3)) (cellB (box_below W9 (.cells #[.slice o9 n9 c9, .slice o10 n10 c10] 25)) (cellB k9 (cellB k8 (cellB (box_below _ (.cells #[.int .i64 0] 3)) (cellB (box_below W7 (.cells #[.slice o7 n7 c7, .slice o8 n8 c8] 25)) (cellB k7 (cellB k6 (cellB (box_below W5 (.cells #[.slice o5 n5 c5, .slice o6 n6 c6] 25)) (cellB k5 (cellB k4 (cellB (box_below W3 (.cells #[.slice o3 n3 c3, .slice o4 n4 c4] 25)) (cellB k3 (box4 (allocNew W2 (.cells #[.slice fo fn fc, .slice (some ⟨gg, 0, none⟩) 2 2, .slice o1 n1 c1, .slice o2 n2 c2] 29))).2.1 (by simp)) (by simp)) (by simp)) (by simp)) (by simp)) (by simp)) (by simp)) (by simp)) (by simp)) (by simp)) (by simp)) (by simp)) (by simp)) (by simp)))
    | (go_at_call 39; (with_reducible refine (table_any W10).mono ?_); rintro e W11 ⟨s5, a5, rfl, r5, z5, q5, y5, k11⟩; have J1 := J.below k11 (Nat.le_refl _))
    | (go_at_call 26; (with_reducible refine (c4_add J1 _ _ _ _ r5 z5 q5 y5 (Nat.le_trans (by simpa only [World.size_alloc] using k10.size) k11.size)).mono ?_); rintro e W12 ⟨co, cn, cc, go, gc, rfl, J2, k12⟩)
    | (go_at_call 25; (with_reducible refine (c4_done J2).mono ?_); rintro e W13 ⟨o11, n11, c11, o12, n12, c12, rfl, rd1, rd2, k13⟩))
  have k3' : Below (W2.alloc (.cells #[.slice fo fn fc, .slice (some ⟨gg, 0, none⟩) 2 2, .slice o1 n1 c1, .slice o2 n2 c2] 29)).heap.size (W2.alloc (.cells #[.slice fo fn fc, .slice (some ⟨gg, 0, none⟩) 2 2, .slice o1 n1 c1, .slice o2 n2 c2] 29)) W3 := by simpa only [World.size_alloc] using k3
  have k10' : Below ((W9.alloc (.cells #[.slice o9 n9 c9, .slice o10 n10 c10] 25)).alloc (.cells #[.int .i64 1] 3)).heap.size ((W9.alloc (.cells #[.slice o9 n9 c9, .slice o10 n10 c10] 25)).alloc (.cells #[.int .i64 1] 3)) W10 := by simpa only [World.size_alloc] using k10
  have k12' : Below ((W9.alloc (.cells #[.slice o9 n9 c9, .slice o10 n10 c10] 25)).alloc (.cells #[.int .i64 1] 3)).heap.size W11 W12 := by simpa only [World.size_alloc] using k12
  clear k3 k10 k12
  have d13 : Below W13.heap.size W13 (W13.alloc (.cells #[.slice o11 n11 c11, .slice o12 n12 c12] 25)) := box_below _ _
  have d12 := btw k13 d13 k13.size
  have d11 : Below ((W9.alloc (.cells #[.slice o9 n9 c9, .slice o10 n10 c10] 25)).alloc (.cells #[.int .i64 1] 3)).heap.size W11 (W13.alloc (.cells #[.slice o11 n11 c11, .slice o12 n12 c12] 25)) := k12'.trans (d12.mono (Nat.le_trans (Nat.le_trans k10'.size k11.size) k12'.size))
  have d10 : Below ((W9.alloc (.cells #[.slice o9 n9 c9, .slice o10 n10 c10] 25)).alloc (.cells #[.int .i64 1] 3)).heap.size ((W9.alloc (.cells #[.slice o9 n9 c9, .slice o10 n10 c10] 25)).alloc (.cells #[.int .i64 1] 3)) (W13.alloc (.cells #[.slice o11 n11 c11, .slice o12 n12 c12] 25)) := ((k10'.trans (k11.mono k10'.size)) : Below ((W9.alloc (.cells #[.slice o9 n9 c9, .slice o10 n10 c10] 25)).alloc (.cells #[.int .i64 1] 3)).heap.size ((W9.alloc (.cells #[.slice o9 n9 c9, .slice o10 n10 c10] 25)).alloc (.cells #[.int .i64 1] 3)) W11).trans d11
  have d9 : Below W9.heap.size W9 (W13.alloc (.cells #[.slice o11 n11 c11, .slice o12 n12 c12] 25)) := btw (b4_box _ (box_below W9 (.cells #[.slice o9 n9 c9, .slice o10 n10 c10] 25))) d10 (b4_box _ (box_below W9 (.cells #[.slice o9 n9 c9, .slice o10 n10 c10] 25))).size
  have d8 := btw k9 d9 k9.size
  have d7z : Below ((W7.alloc (.cells #[.slice o7 n7 c7, .slice o8 n8 c8] 25)).alloc (.cells #[.int .i64 0] 3)).heap.size ((W7.alloc (.cells #[.slice o7 n7 c7, .slice o8 n8 c8] 25)).alloc (.cells #[.int .i64 0] 3)) (W13.alloc (.cells #[.slice o11 n11 c11, .slice o12 n12 c12] 25)) := btw k8 d8 k8.size
  have d7 : Below W7.heap.size W7 (W13.alloc (.cells #[.slice o11 n11 c11, .slice o12 n12 c12] 25)) := btw (b4_box _ (box_below W7 (.cells #[.slice o7 n7 c7, .slice o8 n8 c8] 25))) d7z (b4_box _ (box_below W7 (.cells #[.slice o7 n7 c7, .slice o8 n8 c8] 25))).size
  have d6 := btw k7 d7 k7.size
  have d5x : Below (W5.alloc (.cells #[.slice o5 n5 c5, .slice o6 n6 c6] 25)).heap.size (W5.alloc (.cells #[.slice o5 n5 c5, .slice o6 n6 c6] 25)) (W13.alloc (.cells #[.slice o11 n11 c11, .slice o12 n12 c12] 25)) := btw k6 d6 k6.size
  have d5 : Below W5.heap.size W5 (W13.alloc (.cells #[.slice o11 n11 c11, .slice o12 n12 c12] 25)) := btw (box_below W5 (.cells #[.slice o5 n5 c5, .slice o6 n6 c6] 25)) d5x (box_below W5 (.cells #[.slice o5 n5 c5, .slice o6 n6 c6] 25)).size
  have d4 := btw k5 d5 k5.size
  have d3x : Below (W3.alloc (.cells #[.slice o3 n3 c3, .slice o4 n4 c4] 25)).heap.size (W3.alloc (.cells #[.slice o3 n3 c3, .slice o4 n4 c4] 25)) (W13.alloc (.cells #[.slice o11 n11 c11, .slice o12 n12 c12] 25)) := btw k4 d4 k4.size
  have d3 : Below W3.heap.size W3 (W13.alloc (.cells #[.slice o11 n11 c11, .slice o12 n12 c12] 25)) := btw (box_below W3 (.cells #[.slice o3 n3 c3, .slice o4 n4 c4] 25)) d3x (box_below W3 (.cells #[.slice o3 n3 c3, .slice o4 n4 c4] 25)).size
  have d2x : Below (W2.alloc (.cells #[.slice fo fn fc, .slice (some ⟨gg, 0, none⟩) 2 2, .slice o1 n1 c1, .slice o2 n2 c2] 29)).heap.size (W2.alloc (.cells #[.slice fo fn fc, .slice (some ⟨gg, 0, none⟩) 2 2, .slice o1 n1 c1, .slice o2 n2 c2] 29)) (W13.alloc (.cells #[.slice o11 n11 c11, .slice o12 n12 c12] 25)) := btw k3' d3 k3'.size
  have d2 : Below W2.heap.size W2 (W13.alloc (.cells #[.slice o11 n11 c11, .slice o12 n12 c12] 25)) := btw (box_below W2 (.cells #[.slice fo fn fc, .slice (some ⟨gg, 0, none⟩) 2 2, .slice o1 n1 c1, .slice o2 n2 c2] 29)) d2x (box_below W2 (.cells #[.slice fo fn fc, .slice (some ⟨gg, 0, none⟩) 2 2, .slice o1 n1 c1, .slice o2 n2 c2] 29)).size
  have d1 := btw k2 d2 k2.size
  have d0 := btw k1 d1 k1.size
  have d9x : Below (W9.alloc (.cells #[.slice o9 n9 c9, .slice o10 n10 c10] 25)).heap.size (W9.alloc (.cells #[.slice o9 n9 c9, .slice o10 n10 c10] 25)) (W13.alloc (.cells #[.slice o11 n11 c11, .slice o12 n12 c12] 25)) := btw (box_below (W9.alloc (.cells #[.slice o9 n9 c9, .slice o10 n10 c10] 25)) (.cells #[.int .i64 1] 3)) d10 (box_below (W9.alloc (.cells #[.slice o9 n9 c9, .slice o10 n10 c10] 25)) (.cells #[.int .i64 1] 3)).size
  have G : Bg w (W13.alloc (.cells #[.slice o11 n11 c11, .slice o12 n12 c12] 25)) W2.heap.size W3.heap.size W5.heap.size W9.heap.size W13.heap.size gg W6.heap.size x0 o4 o6 po o9 o10 o11 o12 y0 z0 n4 c4 n6 c6 pc n9 c9 n10 c10 n11 c11 n12 c12 :=
    ⟨cellB d2x (box4 (allocNew W2 (.cells #[.slice fo fn fc, .slice (some ⟨gg, 0, none⟩) 2 2, .slice o1 n1 c1, .slice o2 n2 c2] 29))).2.1 (Nat.le_refl _), cellB d2 hc1 (Nat.le_refl _), cellB d3x (box2 (allocNew W3 (.cells #[.slice o3 n3 c3, .slice o4 n4 c4] 25))).2.1 (Nat.le_refl _), cellB d5x (box2 (allocNew W5 (.cells #[.slice o5 n5 c5, .slice o6 n6 c6] 25))).2.1 (Nat.le_refl _), cellB d9x (box2 (allocNew W9 (.cells #[.slice o9 n9 c9, .slice o10 n10 c10] 25))).1 (Nat.le_refl _), cellB d9x (box2 (allocNew W9 (.cells #[.slice o9 n9 c9, .slice o10 n10 c10] 25))).2.1 (Nat.le_refl _), (box2 (allocNew W13 (.cells #[.slice o11 n11 c11, .slice o12 n12 c12] 25))).1, (box2 (allocNew W13 (.cells #[.slice o11 n11 c11, .slice o12 n12 c12] 25))).2.1,
      rc1.below d2 (Nat.le_refl _), rj.below d3 (Nat.le_refl _), rp.below d5 (Nat.le_refl _), rl.below d7 (Nat.le_refl _), re1.below d9 (Nat.le_refl _), re2.below d9 (Nat.le_refl _), rd1.below d13 (Nat.le_refl _), rd2.below d13 (Nat.le_refl _), d0⟩
  clear d0 d1 d2 d2x d3 d3x d4 d5 d5x d6 d7 d7z d8 d9 d9x d10 d11 d12 d13 k1 k2 k3' k4 k5 k6 k7 k8 k9 k10' k11 k12' k13 hc1 rc1 rj rp rl re1 re2 rd1 rd2 r1 r2 r3 r4 r5 z1 z2 z3 z4 z5 q1 q2 q3 q4 q5 y1 y2 y3 y4 y5 J J1 J2 f0 f1 m1
  generalize (W13.alloc (.cells #[.slice o11 n11 c11, .slice o12 n12 c12] 25)) = W at *
  generalize W2.heap.size = b1 at *
  generalize W3.heap.size = b2 at *
  generalize W5.heap.size = b3 at *
  generalize W9.heap.size = b5 at *
  generalize W13.heap.size = b6 at *
  generalize W6.heap.size = B at *
  have e456 := fun V x y z h => eqlit V [4, 5, 6] (by simp) (by decide) x y z h
  have e456' := fun V x y z h => eqlit' V [4, 5, 6] (by simp) (by decide) x y z h
  have e1034 := fun V x y z h => eqlit V [1, 0, 3, 4] (by simp) (by decide) x y z h
  have e1034' := fun V x y z h => eqlit' V [1, 0, 3, 4] (by simp) (by decide) x y z h
  simp only [List.length_cons, List.length_nil, Nat.zero_add, Nat.reduceAdd, List.map_cons, List.map_nil] at e456 e456' e1034 e1034'
  go_region_held3 (fun V => V.cell? ⟨b1, 1, none⟩ = some (.slice (some ⟨gg, 0, none⟩) 2 2) ∧ V.cell? ⟨gg, 3, none⟩ = some (.slice x0 y0 z0) ∧ V.cell? ⟨b2, 1, none⟩ = some (.slice o4 n4 c4) ∧ V.cell? ⟨b3, 1, none⟩ = some (.slice o6 n6 c6) ∧ V.cell? ⟨b5, 0, none⟩ = some (.slice o9 n9 c9) ∧ V.cell? ⟨b5, 1, none⟩ = some (.slice o10 n10 c10) ∧ V.cell? ⟨b6, 0, none⟩ = some (.slice o11 n11 c11) ∧ V.cell? ⟨b6, 1, none⟩ = some (.slice o12 n12 c12) ∧ Bg w V b1 b2 b3 b5 b6 gg B x0 o4 o6 po o9 o10 o11 o12 y0 z0 n4 c4 n6 c6 pc n9 c9 n10 c10 n11 c11 n12 c12) (first | exact Bg.all (by assumption) | exact Bg.all (Bg.drew (by assumption)) | exact Bg.all (Bg.box _ (by assumption)) | exact Bg.all (Bg.drew (Bg.box _ (by assumption))))
    (first
      | (go_at_call 22; have HB := (‹_ ∧ _ ∧ _ ∧ _ ∧ _ ∧ _ ∧ _ ∧ _ ∧ Bg w _ _ _ _ _ _ _ _ _ _ _ _ _ _ _ _ _ _ _ _ _ _ _ _ _ _ _ _ _ _ _›).2.2.2.2.2.2.2.2; (first | (with_reducible refine (e456 _ _ _ _ HB.r1).mono ?_) | (with_reducible refine (e456' _ _ _ _ HB.r1).mono ?_) | (with_reducible refine (e1034 _ _ _ _ HB.r2).mono ?_) | (with_reducible refine (e1034' _ _ _ _ HB.r2).mono ?_) | (with_reducible refine (e456 _ _ _ _ HB.r3).mono ?_) | (with_reducible refine (e456' _ _ _ _ HB.r3).mono ?_)); rintro e v1 ⟨rfl, g1⟩; have G1 := HB.below g1)
      | (go_at_call 40; have HB := (‹_ ∧ _ ∧ _ ∧ _ ∧ _ ∧ _ ∧ _ ∧ _ ∧ Bg w _ _ _ _ _ _ _ _ _ _ _ _ _ _ _ _ _ _ _ _ _ _ _ _ _ _ _ _ _ _ _›).2.2.2.2.2.2.2.2; (first | (with_reducible refine (eqpcs _ _ _ _ HB.r4).mono ?_) | (with_reducible refine (eqpcs' _ _ _ _ HB.r4).mono ?_)); rintro e v2 ⟨rfl, g2⟩; have G2 := HB.below g2)
      | (go_at_call 39; have HB := (‹_ ∧ _ ∧ _ ∧ _ ∧ _ ∧ _ ∧ _ ∧ _ ∧ Bg w _ _ _ _ _ _ _ _ _ _ _ _ _ _ _ _ _ _ _ _ _ _ _ _ _ _ _ _ _ _ _›).2.2.2.2.2.2.2.2; (first | (with_reducible refine (c4_tabA _).mono ?_) | (with_reducible refine (c4_tabA' _).mono ?_)); rintro e v3 ⟨u1, u2, rfl, tb, tl, g3⟩; have G3 := HB.below g3)
      | (go_at_call 39; have HB := (‹_ ∧ _ ∧ _ ∧ _ ∧ _ ∧ _ ∧ _ ∧ _ ∧ Bg w _ _ _ _ _ _ _ _ _ _ _ _ _ _ _ _ _ _ _ _ _ _ _ _ _ _ _ _ _ _ _›).2.2.2.2.2.2.2.2; (with_reducible refine (table_any _).mono ?_); rintro e v3 ⟨u1, u2, rfl, _, _, tb, _, g3⟩; have G3 := HB.below g3)
      | (go_at_call 14; have HB := (‹_ ∧ _ ∧ _ ∧ _ ∧ _ ∧ _ ∧ _ ∧ _ ∧ Bg w _ _ _ _ _ _ _ _ _ _ _ _ _ _ _ _ _ _ _ _ _ _ _ _ _ _ _ _ _ _ _›).2.2.2.2.2.2.2.2; (first | (with_reducible refine (eqemp _ _ _ _ _ _ _ HB.r5 HB.r6).mono ?_) | (with_reducible refine (eqemp' _ _ _ _ _ _ _ HB.r5 HB.r6).mono ?_)); rintro e v4 ⟨rfl, g4⟩; have G4 := HB.below g4)
      | (go_at_call 14; have HB := (‹_ ∧ _ ∧ _ ∧ _ ∧ _ ∧ _ ∧ _ ∧ _ ∧ Bg w _ _ _ _ _ _ _ _ _ _ _ _ _ _ _ _ _ _ _ _ _ _ _ _ _ _ _ _ _ _ _›).2.2.2.2.2.2.2.2; (first | (with_reducible refine (eqall _ _ _ _ _ _ _ _ _ _ _ HB.r7 HB.r8 tl tb).mono ?_) | (with_reducible refine (eqallL _ _ _ _ _ _ _ _ _ HB.r7 HB.r8 tb).mono ?_) | (with_reducible refine (eqallL' _ _ _ _ _ _ _ _ _ HB.r7 HB.r8 tb).mono ?_)); rintro e v5 ⟨rfl, g5⟩; have G5 := HB.below g5))
  all_goals (go_wp2; go_ret; exact ⟨rfl, Bg.bel (by first | assumption | exact (‹_ ∧ _ ∧ _ ∧ _ ∧ _ ∧ _ ∧ _ ∧ _ ∧ Bg w _ _ _ _ _ _ _ _ _ _ _ _ _ _ _ _ _ _ _ _ _ _ _ _ _ _ _ _ _ _ _›).2.2.2.2.2.2.2.2)⟩)
end Go.Proofs.Ytjllmfahmlfljaa
