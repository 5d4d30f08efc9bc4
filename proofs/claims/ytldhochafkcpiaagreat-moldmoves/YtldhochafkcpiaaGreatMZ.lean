
/- Contract: what every statement of layer 6 asks ahead. -/

import Derived.Test.YtldhochafkcpiaaGreatMY

namespace Go.Proofs.YtldhochafkcpiaaGreat

open Go.RowKit

set_option linter.unusedVariables false

theorem eqlit6 (V : World) (zs : List Int) (hl : zs.length ≤ 100) (hn : ∀ k, k < zs.length → -9223372036854775808 ≤ nth zs k ∧ nth zs k ≤ 9223372036854775807) (x : Option Addr) (y z : Nat) (h : Rd (V.alloc (.cells (zs.map (Value.int .i64)).toArray 2)) x y zs) :
    Calls Tryz.prog 14 #[.slice x y z, .slice (some ⟨V.heap.size, 0, none⟩) zs.length zs.length] (V.alloc (.cells (zs.map (Value.int .i64)).toArray 2)) fun e w' => e = .returned (.bool true) ∧ Below (V.alloc (.cells (zs.map (Value.int .i64)).toArray 2)).heap.size (V.alloc (.cells (zs.map (Value.int .i64)).toArray 2)) w' := by
  have f := ft_new 2 V zs hl hn
  refine (eqAtoms_any _ _ _ _ _ _ zs zs _ h f.rd).mono fun e w' ⟨x1, q, x2⟩ => ⟨by rw [x1, eqB_refl], x2 ▸ below_drewN (Below.refl _ _) _⟩
theorem eqlit6' (V : World) (zs : List Int) (hl : zs.length ≤ 100) (hn : ∀ k, k < zs.length → -9223372036854775808 ≤ nth zs k ∧ nth zs k ≤ 9223372036854775807) (x : Option Addr) (y z : Nat) (h : Rd (V.alloc (.cells (zs.map (Value.int .i64)).toArray 2)).drew x y zs) :
    Calls Tryz.prog 14 #[.slice x y z, .slice (some ⟨V.heap.size, 0, none⟩) zs.length zs.length] (V.alloc (.cells (zs.map (Value.int .i64)).toArray 2)).drew fun e w' => e = .returned (.bool true) ∧ Below (V.alloc (.cells (zs.map (Value.int .i64)).toArray 2)).drew.heap.size (V.alloc (.cells (zs.map (Value.int .i64)).toArray 2)).drew w' := by
  have f := (ft_new 2 V zs hl hn).below (Below.refl _ (V.alloc (.cells (zs.map (Value.int .i64)).toArray 2))).drew (Nat.le_refl _)
  refine (eqAtoms_any _ _ _ _ _ _ zs zs _ h f.rd).mono fun e w' ⟨x1, q, x2⟩ => ⟨by rw [x1, eqB_refl], x2 ▸ below_drewN (Below.refl _ _) _⟩

structure Bh (w V : World) (bA bB bC bD : Nat) (oA oB oC oS oD : Option Addr) (nA cA nB cB nC cC nS cS nD cD : Nat) : Prop where
  a : Hold V bA 1 oA nA cA [1, 4, 2, 5, 3, 6]
  b : Hold V bB 1 oB nB cB [1, 2, 3, 4, 5, 6, 9, 9, 9]
  c : Hold V bC 1 oC nC cC [2, 3, 5, 6, 0, 0]
  s : Hold V bD 0 oS nS cS [2]
  d : Hold V bD 1 oD nD cD [7, 7]
  bel : Below w.heap.size w V
theorem Bh.below {w V V' : World} {bA bB bC bD : Nat} {oA oB oC oS oD : Option Addr} {nA cA nB cB nC cC nS cS nD cD : Nat} (h : Bh w V bA bB bC bD oA oB oC oS oD nA cA nB cB nC cC nS cS nD cD) (k : Below V.heap.size V V') : Bh w V' bA bB bC bD oA oB oC oS oD nA cA nB cB nC cC nS cS nD cD :=
  ⟨h.a.below k, h.b.below k, h.c.below k, h.s.below k, h.d.below k, h.bel.trans (k.mono h.bel.size)⟩
theorem Bh.drew {w V : World} {bA bB bC bD : Nat} {oA oB oC oS oD : Option Addr} {nA cA nB cB nC cC nS cS nD cD : Nat} (h : Bh w V bA bB bC bD oA oB oC oS oD nA cA nB cB nC cC nS cS nD cD) : Bh w V.drew bA bB bC bD oA oB oC oS oD nA cA nB cB nC cC nS cS nD cD := h.below (Below.refl _ _).drew
theorem Bh.box {w V : World} {bA bB bC bD : Nat} {oA oB oC oS oD : Option Addr} {nA cA nB cB nC cC nS cS nD cD : Nat} (o : Obj) (h : Bh w V bA bB bC bD oA oB oC oS oD nA cA nB cB nC cC nS cS nD cD) : Bh w (V.alloc o) bA bB bC bD oA oB oC oS oD nA cA nB cB nC cC nS cS nD cD := h.below (box_below _ _)
theorem Bh.all {w V : World} {bA bB bC bD : Nat} {oA oB oC oS oD : Option Addr} {nA cA nB cB nC cC nS cS nD cD : Nat} (h : Bh w V bA bB bC bD oA oB oC oS oD nA cA nB cB nC cC nS cS nD cD) : V.cell? ⟨bA, 1, none⟩ = some (.slice oA nA cA) ∧ V.cell? ⟨bB, 1, none⟩ = some (.slice oB nB cB) ∧ V.cell? ⟨bC, 1, none⟩ = some (.slice oC nC cC) ∧ V.cell? ⟨bD, 0, none⟩ = some (.slice oS nS cS) ∧ V.cell? ⟨bD, 1, none⟩ = some (.slice oD nD cD) ∧ Bh w V bA bB bC bD oA oB oC oS oD nA cA nB cB nC cC nS cS nD cD := ⟨h.a.1, h.b.1, h.c.1, h.s.1, h.d.1, h⟩
theorem lst32 (V : World) : Calls Tryz.prog 6 #[.slice (some ⟨V.heap.size, 0, none⟩) 2 2] (V.alloc (.cells #[.int .i64 3, .int .i64 (-2)] 2)) fun e w' => ∃ o1 o2 c2, e = .returned (.agg #[.slice (some o1) 1 1, .slice o2 2 c2]) ∧ Rd w' (some o1) 1 [2] ∧ Rd w' o2 2 [3, -2] ∧ Below (V.alloc (.cells #[.int .i64 3, .int .i64 (-2)] 2)).heap.size (V.alloc (.cells #[.int .i64 3, .int .i64 (-2)] 2)) w' :=
  (list6_any _ 2 2 [3, -2] _ (ft_new 2 V [3, -2] (by simp) (by decide)).rd (ft_new 2 V [3, -2] (by simp) (by decide)).sl (by omega)).mono fun e w' ⟨o1, o2, c2, h1, h2, h3, h4⟩ => ⟨o1, o2, c2, h1, h2.rd, h3.rd, h4⟩
theorem lst77 (V : World) : Calls Tryz.prog 6 #[.slice (some ⟨V.heap.size, 0, none⟩) 2 2] (V.alloc (.cells #[.int .i64 7, .int .i64 7] 2)) fun e w' => ∃ o1 o2 c2, e = .returned (.agg #[.slice (some o1) 1 1, .slice o2 2 c2]) ∧ Rd w' (some o1) 1 [2] ∧ Rd w' o2 2 [7, 7] ∧ Below (V.alloc (.cells #[.int .i64 7, .int .i64 7] 2)).heap.size (V.alloc (.cells #[.int .i64 7, .int .i64 7] 2)) w' :=
  (list6_any _ 2 2 [7, 7] _ (ft_new 2 V [7, 7] (by simp) (by decide)).rd (ft_new 2 V [7, 7] (by simp) (by decide)).sl (by omega)).mono fun e w' ⟨o1, o2, c2, h1, h2, h3, h4⟩ => ⟨o1, o2, c2, h1, h2.rd, h3.rd, h4⟩
theorem lst77' (V : World) : Calls Tryz.prog 6 #[.slice (some ⟨V.heap.size, 0, none⟩) 2 2] (V.alloc (.cells #[.int .i64 7, .int .i64 7] 2)).drew fun e w' => ∃ o1 o2 c2, e = .returned (.agg #[.slice (some o1) 1 1, .slice o2 2 c2]) ∧ Rd w' (some o1) 1 [2] ∧ Rd w' o2 2 [7, 7] ∧ Below (V.alloc (.cells #[.int .i64 7, .int .i64 7] 2)).drew.heap.size (V.alloc (.cells #[.int .i64 7, .int .i64 7] 2)).drew w' :=
  (list6_any _ 2 2 [7, 7] _ ((ft_new 2 V [7, 7] (by simp) (by decide)).below (Below.refl _ _).drew (Nat.le_refl _)).rd (ft_new 2 V [7, 7] (by simp) (by decide)).sl (by omega)).mono fun e w' ⟨o1, o2, c2, h1, h2, h3, h4⟩ => ⟨o1, o2, c2, h1, h2.rd, h3.rd, h4⟩
theorem eq77 (V : World) (so ao to bo : Option Addr) (sn sc an ac tc bc : Nat) (h : Rd V so sn [2]) (g : Rd V ao an [7, 7]) (p : Rd V to 1 [2]) (q : Rd V bo 2 [7, 7]) :
    Calls Tryz.prog 15 #[.agg #[.slice so sn sc, .slice ao an ac], .agg #[.slice to 1 tc, .slice bo 2 bc]] V fun e w' => e = .returned (.bool true) ∧ Below V.heap.size V w' :=
  (eq4_any so ao to bo sn sc an ac 1 tc 2 bc [2] [7, 7] [2] [7, 7] V h g p q).mono fun e w' ⟨e1, e2⟩ => ⟨by rw [e1]; rfl, e2⟩

set_option maxHeartbeats 8000000 in
set_option maxRecDepth 20000 in
theorem begun6_any (w : World) : Calls Tryz.prog 4 #[] w fun e w' => e = .returned (.bool true) ∧ Below w.heap.size w w' := by
  go_enter Tryz.func4, Tryz.ntmps4
  go_wp2_with (first
    | (go_at_call 11; (with_reducible refine (table6_any w).mono ?_); rintro e W1 ⟨s1, a1, rfl, fs1, fa1, k1⟩)
    | (go_at_call 10; (with_reducible refine (c6_tran W1 _ _ _ _ fs1.rd fa1.rd).mono ?_); rintro e W2 ⟨o2, n2, c2, p2, m2, d2, rfl, f2, f2a, k2⟩; have hA0 := (hold_box (c1 := c2) (c2 := d2) f2.rd f2a.rd).2; have L2 : Below w.heap.size w (W2.alloc (.cells #[.slice o2 n2 c2, .slice p2 m2 d2] 25)) := (k1.trans (k2.mono k1.size)).trans ((box_below W2 _).mono (Nat.le_trans k1.size k2.size)))
    | (go_at_call 11; (with_reducible refine (table6_any (W2.alloc (.cells #[.slice o2 n2 c2, .slice p2 m2 d2] 25))).mono ?_); rintro e W3 ⟨s3, a3, rfl, fs3, fa3, k3⟩; have hA3 := hA0.below k3; have L3 := L2.trans (k3.mono L2.size))
    | (go_at_call 12; (with_reducible refine (scalar6_any 9 W3 (by omega) (by omega)).mono ?_); rintro e W4 ⟨a4, rfl, fa4, k4⟩; have hA4 := hA3.below k4; have L4 := L3.trans (k4.mono L3.size))
    | (go_at_call 5; (with_reducible refine (c6_ravel W4 _ _ _ _ _ _ (fs3.rd.below k4 (Nat.le_refl _)) fs3.sl (fa3.rd.below k4 (Nat.le_refl _)) fa4.rd).mono ?_); rintro e W5 ⟨o5, n5, c5, p5, m5, d5, rfl, f5, f5a, k5⟩; have hA5 := (hA4.below k5).below (box_below W5 (.cells #[.slice o5 n5 c5, .slice p5 m5 d5] 25)); have hB5 := (hold_box (c1 := c5) (c2 := d5) f5.rd f5a.rd).2; have L5 : Below w.heap.size w (W5.alloc (.cells #[.slice o5 n5 c5, .slice p5 m5 d5] 25)) := (L4.trans (k5.mono L4.size)).trans ((box_below W5 _).mono (Nat.le_trans L4.size k5.size)); have cl := lst32 (W5.alloc (.cells #[.slice o5 n5 c5, .slice p5 m5 d5] 25)); simp only [World.size_alloc] at cl; have hA5l := hA5.below (box_below (W5.alloc (.cells #[.slice o5 n5 c5, .slice p5 m5 d5] 25)) (.cells #[.int .i64 3, .int .i64 (-2)] 2)); have hB5l := hB5.below (box_below (W5.alloc (.cells #[.slice o5 n5 c5, .slice p5 m5 d5] 25)) (.cells #[.int .i64 3, .int .i64 (-2)] 2)); have L5l := L5.trans ((box_below (W5.alloc (.cells #[.slice o5 n5 c5, .slice p5 m5 d5] 25)) (.cells #[.int .i64 3, .int .i64 (-2)] 2)).mono L5.size))
    | (go_at_call 6; (with_reducible refine (cl).mono ?_); rintro e W6 ⟨s6, a6, c6, rfl, rs6, ra6, k6⟩; have k6x : Below ((W5.alloc (.cells #[.slice o5 n5 c5, .slice p5 m5 d5] 25)).alloc (.cells #[.int .i64 3, .int .i64 (-2)] 2)).heap.size ((W5.alloc (.cells #[.slice o5 n5 c5, .slice p5 m5 d5] 25)).alloc (.cells #[.int .i64 3, .int .i64 (-2)] 2)) W6 := (by simpa only [World.size_alloc] using k6); have hA6 := hA5l.below k6x; have hB6 := hB5l.below k6x; have L6 := L5l.trans (k6x.mono L5l.size); clear cl k6)
    | (go_at_call 11; (with_reducible refine (table6_any W6).mono ?_); rintro e W7 ⟨s7, a7, rfl, fs7, fa7, k7⟩; have hA7 := hA6.below k7; have hB7 := hB6.below k7; have L7 := L6.trans (k7.mono L6.size))
    | (go_at_call 5; (with_reducible refine (c6_take W7 _ _ _ _ _ _ _ _ (rs6.below k7 (Nat.le_refl _)) (ra6.below k7 (Nat.le_refl _)) fs7.rd fa7.rd).mono ?_); rintro e W8 ⟨o8, n8, c8, p8, m8, d8, rfl, f8, f8a, k8⟩; have hA8 := (hA7.below k8).below (box_below W8 (.cells #[.slice o8 n8 c8, .slice p8 m8 d8] 25)); have hB8 := (hB7.below k8).below (box_below W8 (.cells #[.slice o8 n8 c8, .slice p8 m8 d8] 25)); have hC8 := (hold_box (c1 := c8) (c2 := d8) f8.rd f8a.rd).2; have L8 : Below w.heap.size w (W8.alloc (.cells #[.slice o8 n8 c8, .slice p8 m8 d8] 25)) := (L7.trans (k8.mono L7.size)).trans ((box_below W8 _).mono (Nat.le_trans L7.size k8.size)))
    | (go_at_call 12; (with_reducible refine (scalar6_any 2 (W8.alloc (.cells #[.slice o8 n8 c8, .slice p8 m8 d8] 25)) (by omega) (by omega)).mono ?_); rintro e W9 ⟨a9, rfl, fa9, k9⟩; have hA9 := hA8.below k9; have hB9 := hB8.below k9; have hC9 := hC8.below k9; have L9 := L8.trans (k9.mono L8.size))
    | (go_at_call 12; (with_reducible refine (scalar6_any 7 W9 (by omega) (by omega)).mono ?_); rintro e W10 ⟨a10, rfl, fa10, k10⟩; have hA10 := hA9.below k10; have hB10 := hB9.below k10; have hC10 := hC9.below k10; have L10 := L9.trans (k10.mono L9.size))
    | (go_at_call 5; (with_reducible refine (c6_shape W10 _ _ _ _ (fa9.rd.below k10 (Nat.le_refl _)) fa10.rd).mono ?_); rintro e W11 ⟨oS, nS, cS, oD, nD, cD, rfl, f11, f11a, k11⟩; have kb := box_below W11 (.cells #[.slice oS nS cS, .slice oD nD cD] 25); have hA11 := (hA10.below k11).below kb; have hB11 := (hB10.below k11).below kb; have hC11 := (hC10.below k11).below kb; have hS11 := (hold_box (c1 := cS) (c2 := cD) f11.rd f11a.rd).1; have hD11 := (hold_box (c1 := cS) (c2 := cD) f11.rd f11a.rd).2; have L11 : Below w.heap.size w (W11.alloc (.cells #[.slice oS nS cS, .slice oD nD cD] 25)) := (L10.trans (k11.mono L10.size)).trans (kb.mono (Nat.le_trans L10.size k11.size)); have BH11 : Bh w (W11.alloc (.cells #[.slice oS nS cS, .slice oD nD cD] 25)) W2.heap.size W5.heap.size W8.heap.size W11.heap.size p2 p5 p8 oS oD m2 d2 m5 d5 m8 d8 nS cS nD cD := ⟨hA11, hB11, hC11, hS11, hD11, L11⟩)
    | (go_at_call 11; (with_reducible refine (table6_any (W11.alloc (.cells #[.slice oS nS cS, .slice oD nD cD] 25))).mono ?_); rintro e W12 ⟨s12, a12, rfl, fs12, fa12, k12⟩; have BH12 := BH11.below k12)
    | (go_at_call 11; (with_reducible refine (table6_any W12).mono ?_); rintro e W13 ⟨s13, a13, rfl, fs13, fa13, k13⟩; have BH13 := BH12.below k13)
    | (go_at_call 5; (with_reducible refine (c6_tail W13 _ _ _ _ _ _ _ _ (fs12.rd.below k13 (Nat.le_refl _)) (fa12.rd.below k13 (Nat.le_refl _)) fs13.rd fa13.rd).mono ?_); rintro e W14 ⟨rfl, k14⟩; have BH14 := (BH13.below k14).below (box_below W14 (.cells #[.slice none 0 0, .slice none 0 0] 25)))
    | (go_at_call 13; (with_reducible refine (has_28_2 (W14.alloc (.cells #[.slice none 0 0, .slice none 0 0] 25))).mono ?_); rintro e W15 ⟨rfl, k15⟩; have BH15 := BH14.below k15)
    | (go_at_call 13; (with_reducible refine (has_30_2 W15).mono ?_); rintro e W16 ⟨rfl, k16⟩; have BH16 := BH15.below k16))
  clear BH15 BH14 BH13 BH12 BH11 hA0 hA3 hA4 hA5 hA5l hA6 hA7 hA8 hA9 hA10 hA11 hB5 hB5l hB6 hB7 hB8 hB9 hB10 hB11 hC8 hC9 hC10 hC11 hS11 hD11 L2 L3 L4 L5 L5l L6 L7 L8 L9 L10 L11 k1 k2 k3 k4 k5 k6x k7 k8 k9 k10 k11 k12 k13 k14 k15 k16 kb fs1 fa1 fs3 fa3 fa4 f2 f2a f5 f5a f8 f8a f11 f11a rs6 ra6 fs7 fa7 fa9 fa10 fs12 fa12 fs13 fa13
  generalize W2.heap.size = bA at *
  generalize W5.heap.size = bB at *
  generalize W8.heap.size = bC at *
  generalize W11.heap.size = bD at *
  have eA := fun V x y z h => eqlit6 V [1, 4, 2, 5, 3, 6] (by simp) (by decide) x y z h
  have eA' := fun V x y z h => eqlit6' V [1, 4, 2, 5, 3, 6] (by simp) (by decide) x y z h
  have eB := fun V x y z h => eqlit6 V [1, 2, 3, 4, 5, 6, 9, 9, 9] (by simp) (by decide) x y z h
  have eB' := fun V x y z h => eqlit6' V [1, 2, 3, 4, 5, 6, 9, 9, 9] (by simp) (by decide) x y z h
  have eC := fun V x y z h => eqlit6 V [2, 3, 5, 6, 0, 0] (by simp) (by decide) x y z h
  have eC' := fun V x y z h => eqlit6' V [2, 3, 5, 6, 0, 0] (by simp) (by decide) x y z h
  simp only [List.length_cons, List.length_nil, Nat.zero_add, Nat.reduceAdd, List.map_cons, List.map_nil] at eA eA' eB eB' eC eC'
  go_region_held3 (fun V => V.cell? ⟨bA, 1, none⟩ = some (.slice p2 m2 d2) ∧ V.cell? ⟨bB, 1, none⟩ = some (.slice p5 m5 d5) ∧ V.cell? ⟨bC, 1, none⟩ = some (.slice p8 m8 d8) ∧ V.cell? ⟨bD, 0, none⟩ = some (.slice oS nS cS) ∧ V.cell? ⟨bD, 1, none⟩ = some (.slice oD nD cD) ∧ Bh w V bA bB bC bD p2 p5 p8 oS oD m2 d2 m5 d5 m8 d8 nS cS nD cD) (first | exact Bh.all (by assumption) | exact Bh.all (Bh.drew (by assumption)) | exact Bh.all (Bh.box _ (by assumption)) | exact Bh.all (Bh.drew (Bh.box _ (by assumption))))
    (first
      | (go_at_call 14; have HB := (‹_ ∧ _ ∧ _ ∧ _ ∧ _ ∧ Bh w _ _ _ _ _ _ _ _ _ _ _ _ _ _ _ _ _ _ _ _›).2.2.2.2.2; have HR := HB.a.2; (with_reducible refine (eA _ _ _ _ HR).mono ?_); rintro e v1 ⟨rfl, g1⟩; have G1 := HB.below g1)
      | (go_at_call 14; have HB := (‹_ ∧ _ ∧ _ ∧ _ ∧ _ ∧ Bh w _ _ _ _ _ _ _ _ _ _ _ _ _ _ _ _ _ _ _ _›).2.2.2.2.2; have HR := HB.a.2; (with_reducible refine (eA' _ _ _ _ HR).mono ?_); rintro e v1 ⟨rfl, g1⟩; have G1 := HB.below g1)
      | (go_at_call 14; have HB := (‹_ ∧ _ ∧ _ ∧ _ ∧ _ ∧ Bh w _ _ _ _ _ _ _ _ _ _ _ _ _ _ _ _ _ _ _ _›).2.2.2.2.2; have HR := HB.b.2; (with_reducible refine (eB _ _ _ _ HR).mono ?_); rintro e v1 ⟨rfl, g1⟩; have G1 := HB.below g1)
      | (go_at_call 14; have HB := (‹_ ∧ _ ∧ _ ∧ _ ∧ _ ∧ Bh w _ _ _ _ _ _ _ _ _ _ _ _ _ _ _ _ _ _ _ _›).2.2.2.2.2; have HR := HB.b.2; (with_reducible refine (eB' _ _ _ _ HR).mono ?_); rintro e v1 ⟨rfl, g1⟩; have G1 := HB.below g1)
      | (go_at_call 14; have HB := (‹_ ∧ _ ∧ _ ∧ _ ∧ _ ∧ Bh w _ _ _ _ _ _ _ _ _ _ _ _ _ _ _ _ _ _ _ _›).2.2.2.2.2; have HR := HB.c.2; (with_reducible refine (eC _ _ _ _ HR).mono ?_); rintro e v1 ⟨rfl, g1⟩; have G1 := HB.below g1)
      | (go_at_call 14; have HB := (‹_ ∧ _ ∧ _ ∧ _ ∧ _ ∧ Bh w _ _ _ _ _ _ _ _ _ _ _ _ _ _ _ _ _ _ _ _›).2.2.2.2.2; have HR := HB.c.2; (with_reducible refine (eC' _ _ _ _ HR).mono ?_); rintro e v1 ⟨rfl, g1⟩; have G1 := HB.below g1)
      | (go_at_call 6; have HB := (‹_ ∧ _ ∧ _ ∧ _ ∧ _ ∧ Bh w _ _ _ _ _ _ _ _ _ _ _ _ _ _ _ _ _ _ _ _›).2.2.2.2.2; (with_reducible refine (lst77 _).mono ?_); rintro e v2 ⟨u1, u2, u3, rfl, q1, q2, g2⟩; have G2 := HB.below g2)
      | (go_at_call 6; have HB := (‹_ ∧ _ ∧ _ ∧ _ ∧ _ ∧ Bh w _ _ _ _ _ _ _ _ _ _ _ _ _ _ _ _ _ _ _ _›).2.2.2.2.2; (with_reducible refine (lst77' _).mono ?_); rintro e v2 ⟨u1, u2, u3, rfl, q1, q2, g2⟩; have G2 := HB.below g2)
      | (go_at_call 15; have HB := (‹_ ∧ _ ∧ _ ∧ _ ∧ _ ∧ Bh w _ _ _ _ _ _ _ _ _ _ _ _ _ _ _ _ _ _ _ _›).2.2.2.2.2; have HR := HB.s.2; have HR2 := HB.d.2; (with_reducible refine (eq77 _ _ _ _ _ _ _ _ _ _ _ HR HR2 q1 q2).mono ?_); rintro e v3 ⟨rfl, g3⟩; have G3 := HB.below g3))
  all_goals (go_wp2; go_ret; exact ⟨rfl, Bh.bel (by first | assumption | exact (‹_ ∧ _ ∧ _ ∧ _ ∧ _ ∧ Bh w _ _ _ _ _ _ _ _ _ _ _ _ _ _ _ _ _ _ _ _›).2.2.2.2.2)⟩)
end Go.Proofs.YtldhochafkcpiaaGreat
