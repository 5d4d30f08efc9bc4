
/- What every statement of layer 5 asks ahead answers true. -/

import Derived.Test.YthncgocjegalhaaT4

import Derived.Test.YthncgocjegalhaaB5m

namespace Go.Proofs.Ythncgocjegalhaa

open Go.RowKit Go.Deep

set_option linter.unusedVariables false

theorem list5_any (ao : Option Addr) (n cap : Nat) (zs : List Int) (w : World) (h : Rd w ao n zs) :
    Calls Try.prog 27 #[.slice ao n cap] w fun e w' => ∃ o, e = .returned (.agg #[.slice (some o) 1 1, .slice ao n cap]) ∧ Rd w' (some o) 1 [(n : Int)] ∧ Sl (some o) 1 1 ∧ Rd w' ao n zs ∧ Below w.heap.size w w' := by
  have hroom := h.room
  go_enter Try.func27, Try.ntmps27
  go_wp2
  go_returns
  have f := ft_new 3 (w.alloc (.cells #[.slice (some ⟨w.heap.size + 1, 0, none⟩) 1 1, .slice ao n cap] 36)) [(n : Int)] (by simp) (num1 (by omega) (by omega))
  rw [World.size_alloc] at f
  have b : Below w.heap.size w ((w.alloc (.cells #[.slice (some ⟨w.heap.size + 1, 0, none⟩) 1 1, .slice ao n cap] 36)).alloc (.cells #[.int .i64 (n : Int)] 3)) := (box_below w _).alloc (by simp) _
  exact ⟨_, rfl, f.rd, f.sl, h.below b (Nat.le_refl _), b⟩

/-- A list made of a literal. -/
theorem c_lit (V : World) (zs : List Int) (hl : zs.length ≤ 100) (hn : ∀ k, k < zs.length → -9223372036854775808 ≤ nth zs k ∧ nth zs k ≤ 9223372036854775807) :
    Calls Try.prog 27 #[.slice (some ⟨V.heap.size, 0, none⟩) zs.length zs.length] (V.alloc (.cells (zs.map (Value.int .i64)).toArray 2)) fun e w' => ∃ o o2 c2, e = .returned (.agg #[.slice (some o) 1 1, .slice o2 zs.length c2]) ∧ Rd w' (some o) 1 [(zs.length : Int)] ∧ Sl (some o) 1 1 ∧ Rd w' o2 zs.length zs ∧ Below (V.alloc (.cells (zs.map (Value.int .i64)).toArray 2)).heap.size (V.alloc (.cells (zs.map (Value.int .i64)).toArray 2)) w' := by
  have f := ft_new 2 V zs hl hn
  exact (list5_any _ _ _ zs _ f.rd).mono fun e w' ⟨o, h1, h2, h3, h4, h5⟩ => ⟨o, _, _, h1, h2, h3, h4, h5⟩
theorem c_lit' (V : World) (zs : List Int) (hl : zs.length ≤ 100) (hn : ∀ k, k < zs.length → -9223372036854775808 ≤ nth zs k ∧ nth zs k ≤ 9223372036854775807) :
    Calls Try.prog 27 #[.slice (some ⟨V.heap.size, 0, none⟩) zs.length zs.length] (V.alloc (.cells (zs.map (Value.int .i64)).toArray 2)).drew fun e w' => ∃ o o2 c2, e = .returned (.agg #[.slice (some o) 1 1, .slice o2 zs.length c2]) ∧ Rd w' (some o) 1 [(zs.length : Int)] ∧ Sl (some o) 1 1 ∧ Rd w' o2 zs.length zs ∧ Below (V.alloc (.cells (zs.map (Value.int .i64)).toArray 2)).drew.heap.size (V.alloc (.cells (zs.map (Value.int .i64)).toArray 2)).drew w' := by
  have f := (ft_new 2 V zs hl hn).below (Below.refl _ (V.alloc (.cells (zs.map (Value.int .i64)).toArray 2))).drew (Nat.le_refl _)
  exact (list5_any _ _ _ zs _ f.rd).mono fun e w' ⟨o, h1, h2, h3, h4, h5⟩ => ⟨o, _, _, h1, h2, h3, h4, h5⟩

theorem c_mon (W : World) (so bo : Option Addr) (sc bc : Nat) (h : Rd W so 1 [2]) (g : Rd W bo 2 [1, 2]) :
    Calls Try.prog 26 #[.int .i64 2, .agg #[.slice so 1 sc, .slice bo 2 bc]] W fun e w' => ∃ o1 c1 o2 c2, e = .returned (.tuple #[.agg #[.slice o1 1 c1, .slice o2 2 c2], .int .i64 0]) ∧ Rd w' o1 1 [2] ∧ Rd w' o2 2 [-1, -2] ∧ Below W.heap.size W w' := by
  refine (monad_any 2 so bo 1 sc 2 bc [2] [1, 2] W h g).mono fun e w' ⟨o1, n1, c1, o2, n2, c2, x1, x2, x3, x4⟩ => ?_
  rw [show moE 2 [2] [1, 2] = 0 by decide] at x1
  rw [show moS 2 [2] [1, 2] = [2] by decide] at x2
  rw [show moA 2 [2] [1, 2] = [-1, -2] by decide] at x3
  obtain rfl := x2.rd.len
  obtain rfl := x3.rd.len
  exact ⟨o1, c1, o2, c2, x1, x2.rd, x3.rd, x4⟩
theorem c_add (W : World) (bo to uo : Option Addr) (bc tc uc : Nat) (g : Rd W bo 1 [10]) (h : Rd W to 1 [2]) (k : Rd W uo 2 [1, 2]) (ht : Sl to 1 tc) :
    Calls Try.prog 28 #[.int .i64 1, .agg #[.slice none 0 0, .slice bo 1 bc], .agg #[.slice to 1 tc, .slice uo 2 uc]] W fun e w' => ∃ o1 c1 o2 c2, e = .returned (.tuple #[.agg #[.slice o1 1 c1, .slice o2 2 c2], .int .i64 0]) ∧ Rd w' o1 1 [2] ∧ Rd w' o2 2 [11, 12] ∧ Below W.heap.size W w' := by
  refine (dyad_any 1 none bo to uo 0 0 1 bc 1 tc 2 uc [] [10] [2] [1, 2] W (Rd.nil W) g h k ⟨fun _ => ⟨rfl, rfl⟩, Nat.le_refl _, by omega⟩ ht).mono fun e w' ⟨o1, n1, c1, o2, n2, c2, x1, x2, x3, x4⟩ => ?_
  rw [show ddE 1 [] [10] [2] [1, 2] = 0 by decide] at x1
  rw [show ddS 1 [] [10] [2] [1, 2] = [2] by decide] at x2
  rw [show ddA 1 [] [10] [2] [1, 2] = [11, 12] by decide] at x3
  obtain rfl := x2.rd.len
  obtain rfl := x3.rd.len
  exact ⟨o1, c1, o2, c2, x1, x2.rd, x3.rd, x4⟩
theorem c_mul (W : World) (so bo to uo : Option Addr) (sc bc tc uc : Nat) (f : Rd W so 1 [3]) (g : Rd W bo 3 [1, 2, 3]) (h : Rd W to 1 [2]) (k : Rd W uo 2 [1, 2]) (hs : Sl so 1 sc) (ht : Sl to 1 tc) :
    Calls Try.prog 28 #[.int .i64 3, .agg #[.slice so 1 sc, .slice bo 3 bc], .agg #[.slice to 1 tc, .slice uo 2 uc]] W fun e w' => ∃ o1 n1 c1 o2 n2 c2, e = .returned (.tuple #[.agg #[.slice o1 n1 c1, .slice o2 n2 c2], .int .i64 11]) ∧ Below W.heap.size W w' := by
  refine (dyad_any 3 so bo to uo 1 sc 3 bc 1 tc 2 uc [3] [1, 2, 3] [2] [1, 2] W f g h k hs ht).mono fun e w' ⟨o1, n1, c1, o2, n2, c2, x1, x2, x3, x4⟩ => ?_
  rw [show ddE 3 [3] [1, 2, 3] [2] [1, 2] = 11 by decide] at x1
  exact ⟨o1, n1, c1, o2, n2, c2, x1, x4⟩
theorem c_eq (W : World) (so bo to uo : Option Addr) (sc bc tc uc : Nat) (s a : List Int) (sn an : Nat) (f : Rd W so sn s) (g : Rd W bo an a) (h : Rd W to sn s) (k : Rd W uo an a) :
    Calls Try.prog 11 #[.agg #[.slice so sn sc, .slice bo an bc], .agg #[.slice to sn tc, .slice uo an uc]] W fun e w' => e = .returned (.bool true) ∧ Below W.heap.size W w' := by
  have := eq_any so bo to uo sn sc an bc sn tc an uc s a s a W f g h k
  rwa [eqA_refl] at this
theorem c_has2 (W : World) : Calls Try.prog 29 #[.int .i64 4, .int .i64 2] W fun e w' => e = .returned (.bool true) ∧ Below W.heap.size W w' := by
  have := hasT_any 4 2 W
  rwa [show hasB 4 2 = true by decide] at this
theorem c_has1 (W : World) : Calls Try.prog 29 #[.int .i64 4, .int .i64 1] W fun e w' => e = .returned (.bool false) ∧ Below W.heap.size W w' := by
  have := hasT_any 4 1 W
  rwa [show hasB 4 1 = false by decide] at this

theorem b_box {W V : World} (o : Obj) (h : Below W.heap.size W V) : Below W.heap.size W (V.alloc o) := btw h (box_below _ _) h.size
theorem b_boxd {W V : World} (o : Obj) (h : Below W.heap.size W V) : Below W.heap.size W (V.alloc o).drew := (b_box o h).drew
set_option maxHeartbeats 8000000 in
set_option maxRecDepth 20000 in
theorem begun5_any (w : World) : Calls Try.prog 14 #[] w fun e w' => e = .returned (.bool true) ∧ Below w.heap.size w w' := by
  have c12 := fun V => c_lit V [1, 2] (by simp) (by decide)
  have c123 := fun V => c_lit V [1, 2, 3] (by simp) (by decide)
  simp only [List.length_cons, List.length_nil, Nat.zero_add, Nat.reduceAdd, List.map_cons, List.map_nil] at c12 c123
  go_enter Try.func14, Try.ntmps14
  go_wp2_with (first
    | (go_at_call 26; (with_reducible refine (c_mon _ _ _ _ _ r1 r2).mono ?_); rintro e w2 ⟨o3, c3, o4, c4, rfl, r3, r4, h2⟩; have q1 := c12 ((w2.alloc (.cells #[.slice o3 1 c3, .slice o4 2 c4] 36)).alloc (.cells #[.int .i64 10] 2)); simp only [World.size_alloc] at q1)
    | (go_at_call 27; (with_reducible refine q1.mono ?_); rintro e w3 ⟨o5, o6, c6, rfl, r5, s5, r6, h3⟩; have f10 := ((ft_new 2 (w2.alloc (.cells #[.slice o3 1 c3, .slice o4 2 c4] 36)) [10] (by simp) (by decide)).below (box_below _ (.cells #[.int .i64 1, .int .i64 2] 2)) (Nat.le_refl _)).below h3 (by simp); rw [World.size_alloc] at f10)
    | (go_at_call 28; (with_reducible refine (c_add _ _ _ _ _ _ _ f10.rd r5 r6 s5).mono ?_); rintro e w4 ⟨o7, c7, o8, c8, rfl, r7, r8, h4⟩; have q3 := c123 (w4.alloc (.cells #[.slice o7 1 c7, .slice o8 2 c8] 36)); simp only [World.size_alloc] at q3; clear q1)
    | (go_at_call 27; (with_reducible refine q3.mono ?_); rintro e w5 ⟨o9, o10, c10, rfl, r9, s9, r10, h5⟩; clear q3)
    | (go_at_call 28; (with_reducible refine (c_mul _ _ _ _ _ _ _ _ _ r9' r10' r11 r12 s9 s11).mono ?_); rintro e w7 ⟨oa, na, ca, ob, nb, cb, rfl, h7⟩)
    | (go_at_call 27; (with_reducible refine (c12 w5).mono ?_); rintro e w6 ⟨o11, o12, c12', rfl, r11, s11, r12, h6⟩; have r9' := (r9.below (box_below w5 (.cells #[.int .i64 1, .int .i64 2] 2)) (Nat.le_refl _)).below h6 (Nat.le_refl _); have r10' := (r10.below (box_below w5 (.cells #[.int .i64 1, .int .i64 2] 2)) (Nat.le_refl _)).below h6 (Nat.le_refl _))
    | (go_at_call 27; (with_reducible refine (c12 _).mono ?_); rintro e w1 ⟨o1, o2, c2, rfl, r1, s1, r2, h1⟩))
  have bxa := bx_new (sc := c3) (ac := c4) r3 r4
  have bxb := bx_new (sc := c7) (ac := c8) r7 r8
  have k1 := box_below (w2.alloc (.cells #[.slice o3 1 c3, .slice o4 2 c4] 36)) (.cells #[.int .i64 10] 2)
  have k2 := btw k1 (box_below _ (.cells #[.int .i64 1, .int .i64 2] 2)) k1.size
  have k3 := k2.trans (h3.mono (by simp))
  have k4 := btw k3 h4 k3.size
  have k5 := btw k4 (box_below w4 (.cells #[.slice o7 1 c7, .slice o8 2 c8] 36)) k4.size
  have m1 := (box_below (w4.alloc (.cells #[.slice o7 1 c7, .slice o8 2 c8] 36)) (.cells #[.int .i64 1, .int .i64 2, .int .i64 3] 2)).trans (h5.mono (by simp))
  have m2 := btw m1 (box_below w5 (.cells #[.int .i64 1, .int .i64 2] 2)) m1.size
  have m3 := btw m2 h6 m2.size
  have m4 := btw m3 h7 m3.size
  have m5 := btw m4 (box_below w7 (.cells #[.slice oa na ca, .slice ob nb cb] 36)) m4.size
  have A := bxa.below (btw k5 m5 k5.size)
  have B := bxb.below m5
  have T0 := btw (btw (box_below w (.cells #[.int .i64 1, .int .i64 2] 2)) h1 (by simp)) h2 (btw (box_below w (.cells #[.int .i64 1, .int .i64 2] 2)) h1 (by simp)).size
  have T1 := btw T0 (box_below w2 (.cells #[.slice o3 1 c3, .slice o4 2 c4] 36)) T0.size
  have T := btw T1 (btw k5 m5 k5.size) T1.size
  obtain ⟨W, hW⟩ : ∃ W, w7.alloc (.cells #[.slice oa na ca, .slice ob nb cb] 36) = W := ⟨_, rfl⟩
  rw [hW] at A B T ⊢
  clear hW m1 m2 m3 m4 m5 k1 k2 k3 k4 k5 T0 T1 bxa bxb c12 c123 r9' r10' r9 r10 r11 r12 f10 h1 h2 h3 h4 h5 h6 h7 r1 r2 r5 r6
  have al : ∀ V, Below W.heap.size W V → V.cell? ⟨w2.heap.size, 0, none⟩ = some (.slice o3 1 c3) ∧ V.cell? ⟨w2.heap.size, 1, none⟩ = some (.slice o4 2 c4) ∧ V.cell? ⟨w4.heap.size, 0, none⟩ = some (.slice o7 1 c7) ∧ V.cell? ⟨w4.heap.size, 1, none⟩ = some (.slice o8 2 c8) ∧ Below W.heap.size W V :=
    fun V b => ⟨(A.below b).c0, (A.below b).c1, (B.below b).c0, (B.below b).c1, b⟩
  have lA := fun V => c_lit V [-1, -2] (by simp) (by decide)
  have lA' := fun V => c_lit' V [-1, -2] (by simp) (by decide)
  have lB := fun V => c_lit V [11, 12] (by simp) (by decide)
  have lB' := fun V => c_lit' V [11, 12] (by simp) (by decide)
  simp only [List.length_cons, List.length_nil, Nat.zero_add, Nat.reduceAdd, List.map_cons, List.map_nil] at lA lA' lB lB'
  go_region_held3 (fun V => V.cell? ⟨w2.heap.size, 0, none⟩ = some (.slice o3 1 c3) ∧ V.cell? ⟨w2.heap.size, 1, none⟩ = some (.slice o4 2 c4) ∧ V.cell? ⟨w4.heap.size, 0, none⟩ = some (.slice o7 1 c7) ∧ V.cell? ⟨w4.heap.size, 1, none⟩ = some (.slice o8 2 c8) ∧ Below W.heap.size W V) (first | exact al _ (by assumption) | exact al _ (Below.refl _ _) | exact al _ (Below.refl _ _).drew | exact al _ (Below.drew (by assumption)) | exact al _ (b_boxd _ (Below.refl _ _)) | exact al _ (b_boxd _ (by assumption)) | exact al _ (b_box _ (Below.refl _ _)) | exact al _ (b_box _ (by assumption)))
    (first
      | (go_at_call 27; have HB := (‹_ ∧ _ ∧ _ ∧ _ ∧ Below W.heap.size W _›).2.2.2.2; (first | (with_reducible refine (lA _).mono ?_) | (with_reducible refine (lA' _).mono ?_) | (with_reducible refine (lB _).mono ?_) | (with_reducible refine (lB' _).mono ?_)); rintro e v1 ⟨p1, p2, d2, rfl, t1, s1, t2, g1⟩; have G1 := btw HB g1 HB.size)
      | (go_at_call 11; (first | (with_reducible refine (c_eq _ _ _ _ _ _ _ _ _ [2] [-1, -2] _ _ (A.below G1).s (A.below G1).a t1 t2).mono ?_) | (with_reducible refine (c_eq _ _ _ _ _ _ _ _ _ [2] [11, 12] _ _ (B.below G1).s (B.below G1).a t1 t2).mono ?_)); rintro e v2 ⟨rfl, g2⟩; have G2 := btw G1 g2 G1.size; clear t1 t2 s1 G1)
      | (go_at_call 29; have HB := (‹_ ∧ _ ∧ _ ∧ _ ∧ Below W.heap.size W _›).2.2.2.2; (first | (with_reducible refine (c_has2 _).mono ?_) | (with_reducible refine (c_has1 _).mono ?_)); rintro e v3 ⟨rfl, g3⟩; have G3 := btw HB g3 HB.size))
  go_wp2
  go_ret
  exact ⟨rfl, btw T (by first | assumption | exact (‹_ ∧ _ ∧ _ ∧ _ ∧ Below W.heap.size W _›).2.2.2.2) T.size⟩
end Go.Proofs.Ythncgocjegalhaa
