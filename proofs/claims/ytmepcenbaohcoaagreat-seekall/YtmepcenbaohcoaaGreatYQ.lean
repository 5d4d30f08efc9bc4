
/- Contract: what every statement of layer 7 asks ahead. -/

import Derived.Test.YtmepcenbaohcoaaGreatYP

namespace Go.Proofs.YtmepcenbaohcoaaGreat

open Go.RowKit

set_option linter.unusedVariables false

set_option maxHeartbeats 1000000 in
theorem list7_any (ao : Option Addr) (n c : Nat) (zs : List Int) (w : World) (h : Rd w ao n zs) (hn : n ≤ 4096) : Calls Tryz.prog 13 #[.slice ao n c] w fun e w' => ∃ o1, e = .returned (.agg #[.slice (some o1) 1 1, .slice ao n c]) ∧ Ft 3 w' w.heap.size (some o1) 1 1 [(n : Int)] ∧ Rd w' ao n zs ∧ Below w.heap.size w w' := by
  have k0 := box_below w (.cells #[.slice (some ⟨w.heap.size + 1, 0, none⟩) 1 1, .slice ao n c] 30)
  have f1 := ft_new 3 (w.alloc (.cells #[.slice (some ⟨w.heap.size + 1, 0, none⟩) 1 1, .slice ao n c] 30)) [(n : Int)] (by simp) (fun j hj => by rw [show j = 0 by simp at hj; omega, show nth [(n : Int)] 0 = (n : Int) from rfl]; omega)
  have f1' : Ft 3 ((w.alloc (.cells #[.slice (some ⟨w.heap.size + 1, 0, none⟩) 1 1, .slice ao n c] 30)).alloc (.cells #[.int .i64 (n : Nat)] 3)) _ _ 1 1 [(n : Int)] := f1
  have k1 := box_below (w.alloc (.cells #[.slice (some ⟨w.heap.size + 1, 0, none⟩) 1 1, .slice ao n c] 30)) (.cells #[.int .i64 (n : Nat)] 3)
  simp only [World.size_alloc] at f1' k1
  have kk := k0.trans (k1.mono (by omega))
  go_enter Tryz.func13, Tryz.ntmps13
  go_wp2
  go_returns
  exact ⟨_, rfl, f1'.mono (by omega), h.below kk (Nat.le_refl _), kk⟩
theorem eqT (V : World) (so ao uo bo : Option Addr) (sn sc an ac tn tc bn bc : Nat) (S A : List Int) (h : Rd V so sn S) (g : Rd V ao an A) (p : Rd V uo tn S) (q : Rd V bo bn A) :
    Calls Tryz.prog 11 #[.agg #[.slice so sn sc, .slice ao an ac], .agg #[.slice uo tn tc, .slice bo bn bc]] V fun e w' => e = .returned (.bool true) ∧ Below V.heap.size V w' :=
  (eq_any so ao uo bo sn sc an ac tn tc bn bc S A S A V h g p q).mono fun e w' ⟨e1, e2⟩ => ⟨by rw [e1]; rw [show eqA S A S A = true by unfold eqA; rw [eqB_refl, eqB_refl]; rfl], e2⟩
theorem up312 {ps : List Int} (h : Pls (cUp (itX [3] [3, 1, 2])) 3 ps) : ps = [1, 2, 0] := by
  have key : ∀ a b c : Fin 3, lx (cUp (itX [3] [3, 1, 2])) ((a.val : Nat) : Int) ((b.val : Nat) : Int) → lx (cUp (itX [3] [3, 1, 2])) ((b.val : Nat) : Int) ((c.val : Nat) : Int) → a = 1 ∧ b = 2 ∧ c = 0 := by unfold lx; decide
  have hl := h.len
  have a0 := h.inn 0 (by omega)
  have a1 := h.inn 1 (by omega)
  have a2 := h.inn 2 (by omega)
  obtain ⟨x, hx⟩ : ∃ x : Nat, nth ps 0 = x := ⟨(nth ps 0).toNat, by omega⟩
  obtain ⟨y, hy⟩ : ∃ x : Nat, nth ps 1 = x := ⟨(nth ps 1).toNat, by omega⟩
  obtain ⟨z, hz⟩ : ∃ x : Nat, nth ps 2 = x := ⟨(nth ps 2).toNat, by omega⟩
  have s1 := h.so 0 1 (by omega) (by omega) (by omega)
  have s2 := h.so 1 2 (by omega) (by omega) (by omega)
  rw [hx, hy] at s1
  rw [hy, hz] at s2
  obtain ⟨e1, e2, e3⟩ := key ⟨x, by omega⟩ ⟨y, by omega⟩ ⟨z, by omega⟩ s1 s2
  have e1' : x = 1 := congrArg Fin.val e1
  have e2' : y = 2 := congrArg Fin.val e2
  have e3' : z = 0 := congrArg Fin.val e3
  subst e1' e2' e3'
  exact ext_nth (by rw [hl]; rfl) (fun k hk => by
    rw [hl] at hk
    match k, hk with
    | 0, _ => exact hx
    | 1, _ => exact hy
    | 2, _ => exact hz)
theorem c7_up (w : World) (so ao : Option Addr) (sc ac : Nat) (hs : Rd w so 1 [3]) (ss : Sl so 1 sc) (ha : Rd w ao 3 [3, 1, 2]) (sa : Sl ao 3 ac) : Calls Tryz.prog 12 #[.int .i64 37, .agg #[.slice so 1 sc, .slice ao 3 ac]] w fun e w' => AnsQ w (fun S A => S = [3] ∧ A = [1, 2, 0]) 0 e w' :=
  monadS_up so ao 1 sc 3 ac [3] [3, 1, 2] _ 0 w hs ha (by decide) (fun V k => by
    refine (gradeUp_any so ao 1 sc 3 ac [3] [3, 1, 2] V (hs.below k (Nat.le_refl _)) ss (ha.below k (Nat.le_refl _)) sa (by decide)).mono ?_
    rintro e w' ⟨o1, n1, c1, o2, n2, c2, ps, he, f1, f2, P, b⟩
    rw [show itN [3] = 3 by decide] at f1 P
    exact ⟨o1, n1, c1, o2, n2, c2, _, ps, he, f1, f2, ⟨rfl, up312 P⟩, b⟩)
theorem c7_iota (w : World) (xo yo so ao : Option Addr) (xc yc sc ac : Nat) (hx : Rd w xo 1 [3]) (sx : Sl xo 1 xc) (hy : Rd w yo 3 [5, 6, 5]) (sy : Sl yo 3 yc) (hs : Rd w so 1 [3]) (ss : Sl so 1 sc) (ha : Rd w ao 3 [5, 9, 6]) (sa : Sl ao 3 ac) : Calls Tryz.prog 14 #[.int .i64 34, .agg #[.slice xo 1 xc, .slice yo 3 yc], .agg #[.slice so 1 sc, .slice ao 3 ac]] w fun e w' => AnsQ w (fun S A => S = [3] ∧ A = [0, 3, 1]) 0 e w' :=
  dyadS_iota xo yo so ao 1 xc 3 yc 1 sc 3 ac [3] [5, 6, 5] [3] [5, 9, 6] _ 0 w hx hy hs ha (by decide) (by decide) (fun V k => by
    refine (placeIn_any xo yo so ao 1 xc 3 yc 1 sc 3 ac [3] [5, 6, 5] [3] [5, 9, 6] V (hx.below k (Nat.le_refl _)) sx (hy.below k (Nat.le_refl _)) sy (by decide) (hs.below k (Nat.le_refl _)) ss (ha.below k (Nat.le_refl _)) sa (by decide)).mono ?_
    rintro e w' ⟨o1, n1, c1, o2, n2, c2, he, f1, f2, b⟩
    exact ⟨o1, n1, c1, o2, n2, c2, _, _, he, f1, f2, ⟨by decide, by decide⟩, b⟩)
theorem c7_nub (w : World) (so ao : Option Addr) (sc ac : Nat) (hs : Rd w so 1 [3]) (ss : Sl so 1 sc) (ha : Rd w ao 3 [2, 2, 1]) (sa : Sl ao 3 ac) : Calls Tryz.prog 12 #[.int .i64 36, .agg #[.slice so 1 sc, .slice ao 3 ac]] w fun e w' => AnsQ w (fun S A => S = [2] ∧ A = [2, 1]) 0 e w' :=
  monadS_nub so ao 1 sc 3 ac [3] [2, 2, 1] _ 0 w hs ha (by decide) (fun V k => by
    refine (nub_any so ao 1 sc 3 ac [3] [2, 2, 1] V (hs.below k (Nat.le_refl _)) ss (ha.below k (Nat.le_refl _)) sa (by decide)).mono ?_
    rintro e w' ⟨o1, n1, c1, o2, n2, c2, he, f1, f2, b⟩
    exact ⟨o1, n1, c1, o2, n2, c2, _, _, he, f1, f2, ⟨by decide, by decide⟩, b⟩)
theorem l312 (V : World) : Calls Tryz.prog 13 #[.slice (some ⟨V.heap.size, 0, none⟩) 3 3] (V.alloc (.cells #[.int .i64 3, .int .i64 1, .int .i64 2] 2)) fun e w' => ∃ o1, e = .returned (.agg #[.slice (some o1) 1 1, .slice (some ⟨V.heap.size, 0, none⟩) 3 3]) ∧ Rd w' (some o1) 1 [3] ∧ Rd w' (some ⟨V.heap.size, 0, none⟩) 3 [3, 1, 2] ∧ Sl (some ⟨V.heap.size, 0, none⟩) 3 3 ∧ Below (V.alloc (.cells #[.int .i64 3, .int .i64 1, .int .i64 2] 2)).heap.size (V.alloc (.cells #[.int .i64 3, .int .i64 1, .int .i64 2] 2)) w' :=
  (list7_any (some ⟨V.heap.size, 0, none⟩) 3 3 [3, 1, 2] _ (ft_new 2 V [3, 1, 2] (by simp) (by decide)).rd (by omega)).mono fun e w' ⟨o1, h1, h2, h3, h4⟩ => ⟨o1, h1, h2.rd, h3, (ft_new 2 V [3, 1, 2] (by simp) (by decide)).sl, h4⟩
theorem l565 (V : World) : Calls Tryz.prog 13 #[.slice (some ⟨V.heap.size, 0, none⟩) 3 3] (V.alloc (.cells #[.int .i64 5, .int .i64 6, .int .i64 5] 2)) fun e w' => ∃ o1, e = .returned (.agg #[.slice (some o1) 1 1, .slice (some ⟨V.heap.size, 0, none⟩) 3 3]) ∧ Rd w' (some o1) 1 [3] ∧ Rd w' (some ⟨V.heap.size, 0, none⟩) 3 [5, 6, 5] ∧ Sl (some ⟨V.heap.size, 0, none⟩) 3 3 ∧ Below (V.alloc (.cells #[.int .i64 5, .int .i64 6, .int .i64 5] 2)).heap.size (V.alloc (.cells #[.int .i64 5, .int .i64 6, .int .i64 5] 2)) w' :=
  (list7_any (some ⟨V.heap.size, 0, none⟩) 3 3 [5, 6, 5] _ (ft_new 2 V [5, 6, 5] (by simp) (by decide)).rd (by omega)).mono fun e w' ⟨o1, h1, h2, h3, h4⟩ => ⟨o1, h1, h2.rd, h3, (ft_new 2 V [5, 6, 5] (by simp) (by decide)).sl, h4⟩
theorem l596 (V : World) : Calls Tryz.prog 13 #[.slice (some ⟨V.heap.size, 0, none⟩) 3 3] (V.alloc (.cells #[.int .i64 5, .int .i64 9, .int .i64 6] 2)) fun e w' => ∃ o1, e = .returned (.agg #[.slice (some o1) 1 1, .slice (some ⟨V.heap.size, 0, none⟩) 3 3]) ∧ Rd w' (some o1) 1 [3] ∧ Rd w' (some ⟨V.heap.size, 0, none⟩) 3 [5, 9, 6] ∧ Sl (some ⟨V.heap.size, 0, none⟩) 3 3 ∧ Below (V.alloc (.cells #[.int .i64 5, .int .i64 9, .int .i64 6] 2)).heap.size (V.alloc (.cells #[.int .i64 5, .int .i64 9, .int .i64 6] 2)) w' :=
  (list7_any (some ⟨V.heap.size, 0, none⟩) 3 3 [5, 9, 6] _ (ft_new 2 V [5, 9, 6] (by simp) (by decide)).rd (by omega)).mono fun e w' ⟨o1, h1, h2, h3, h4⟩ => ⟨o1, h1, h2.rd, h3, (ft_new 2 V [5, 9, 6] (by simp) (by decide)).sl, h4⟩
theorem l221 (V : World) : Calls Tryz.prog 13 #[.slice (some ⟨V.heap.size, 0, none⟩) 3 3] (V.alloc (.cells #[.int .i64 2, .int .i64 2, .int .i64 1] 2)) fun e w' => ∃ o1, e = .returned (.agg #[.slice (some o1) 1 1, .slice (some ⟨V.heap.size, 0, none⟩) 3 3]) ∧ Rd w' (some o1) 1 [3] ∧ Rd w' (some ⟨V.heap.size, 0, none⟩) 3 [2, 2, 1] ∧ Sl (some ⟨V.heap.size, 0, none⟩) 3 3 ∧ Below (V.alloc (.cells #[.int .i64 2, .int .i64 2, .int .i64 1] 2)).heap.size (V.alloc (.cells #[.int .i64 2, .int .i64 2, .int .i64 1] 2)) w' :=
  (list7_any (some ⟨V.heap.size, 0, none⟩) 3 3 [2, 2, 1] _ (ft_new 2 V [2, 2, 1] (by simp) (by decide)).rd (by omega)).mono fun e w' ⟨o1, h1, h2, h3, h4⟩ => ⟨o1, h1, h2.rd, h3, (ft_new 2 V [2, 2, 1] (by simp) (by decide)).sl, h4⟩
theorem l120 (V : World) : Calls Tryz.prog 13 #[.slice (some ⟨V.heap.size, 0, none⟩) 3 3] (V.alloc (.cells #[.int .i64 1, .int .i64 2, .int .i64 0] 2)) fun e w' => ∃ o1, e = .returned (.agg #[.slice (some o1) 1 1, .slice (some ⟨V.heap.size, 0, none⟩) 3 3]) ∧ Rd w' (some o1) 1 [3] ∧ Rd w' (some ⟨V.heap.size, 0, none⟩) 3 [1, 2, 0] ∧ Sl (some ⟨V.heap.size, 0, none⟩) 3 3 ∧ Below (V.alloc (.cells #[.int .i64 1, .int .i64 2, .int .i64 0] 2)).heap.size (V.alloc (.cells #[.int .i64 1, .int .i64 2, .int .i64 0] 2)) w' :=
  (list7_any (some ⟨V.heap.size, 0, none⟩) 3 3 [1, 2, 0] _ (ft_new 2 V [1, 2, 0] (by simp) (by decide)).rd (by omega)).mono fun e w' ⟨o1, h1, h2, h3, h4⟩ => ⟨o1, h1, h2.rd, h3, (ft_new 2 V [1, 2, 0] (by simp) (by decide)).sl, h4⟩
theorem l120d (V : World) : Calls Tryz.prog 13 #[.slice (some ⟨V.heap.size, 0, none⟩) 3 3] (V.alloc (.cells #[.int .i64 1, .int .i64 2, .int .i64 0] 2)).drew fun e w' => ∃ o1, e = .returned (.agg #[.slice (some o1) 1 1, .slice (some ⟨V.heap.size, 0, none⟩) 3 3]) ∧ Rd w' (some o1) 1 [3] ∧ Rd w' (some ⟨V.heap.size, 0, none⟩) 3 [1, 2, 0] ∧ Sl (some ⟨V.heap.size, 0, none⟩) 3 3 ∧ Below (V.alloc (.cells #[.int .i64 1, .int .i64 2, .int .i64 0] 2)).drew.heap.size (V.alloc (.cells #[.int .i64 1, .int .i64 2, .int .i64 0] 2)).drew w' :=
  (list7_any (some ⟨V.heap.size, 0, none⟩) 3 3 [1, 2, 0] _ ((ft_new 2 V [1, 2, 0] (by simp) (by decide)).below (Below.refl _ _).drew (Nat.le_refl _)).rd (by omega)).mono fun e w' ⟨o1, h1, h2, h3, h4⟩ => ⟨o1, h1, h2.rd, h3, (ft_new 2 V [1, 2, 0] (by simp) (by decide)).sl, h4⟩
theorem l031 (V : World) : Calls Tryz.prog 13 #[.slice (some ⟨V.heap.size, 0, none⟩) 3 3] (V.alloc (.cells #[.int .i64 0, .int .i64 3, .int .i64 1] 2)) fun e w' => ∃ o1, e = .returned (.agg #[.slice (some o1) 1 1, .slice (some ⟨V.heap.size, 0, none⟩) 3 3]) ∧ Rd w' (some o1) 1 [3] ∧ Rd w' (some ⟨V.heap.size, 0, none⟩) 3 [0, 3, 1] ∧ Sl (some ⟨V.heap.size, 0, none⟩) 3 3 ∧ Below (V.alloc (.cells #[.int .i64 0, .int .i64 3, .int .i64 1] 2)).heap.size (V.alloc (.cells #[.int .i64 0, .int .i64 3, .int .i64 1] 2)) w' :=
  (list7_any (some ⟨V.heap.size, 0, none⟩) 3 3 [0, 3, 1] _ (ft_new 2 V [0, 3, 1] (by simp) (by decide)).rd (by omega)).mono fun e w' ⟨o1, h1, h2, h3, h4⟩ => ⟨o1, h1, h2.rd, h3, (ft_new 2 V [0, 3, 1] (by simp) (by decide)).sl, h4⟩
theorem l031d (V : World) : Calls Tryz.prog 13 #[.slice (some ⟨V.heap.size, 0, none⟩) 3 3] (V.alloc (.cells #[.int .i64 0, .int .i64 3, .int .i64 1] 2)).drew fun e w' => ∃ o1, e = .returned (.agg #[.slice (some o1) 1 1, .slice (some ⟨V.heap.size, 0, none⟩) 3 3]) ∧ Rd w' (some o1) 1 [3] ∧ Rd w' (some ⟨V.heap.size, 0, none⟩) 3 [0, 3, 1] ∧ Sl (some ⟨V.heap.size, 0, none⟩) 3 3 ∧ Below (V.alloc (.cells #[.int .i64 0, .int .i64 3, .int .i64 1] 2)).drew.heap.size (V.alloc (.cells #[.int .i64 0, .int .i64 3, .int .i64 1] 2)).drew w' :=
  (list7_any (some ⟨V.heap.size, 0, none⟩) 3 3 [0, 3, 1] _ ((ft_new 2 V [0, 3, 1] (by simp) (by decide)).below (Below.refl _ _).drew (Nat.le_refl _)).rd (by omega)).mono fun e w' ⟨o1, h1, h2, h3, h4⟩ => ⟨o1, h1, h2.rd, h3, (ft_new 2 V [0, 3, 1] (by simp) (by decide)).sl, h4⟩
theorem l21 (V : World) : Calls Tryz.prog 13 #[.slice (some ⟨V.heap.size, 0, none⟩) 2 2] (V.alloc (.cells #[.int .i64 2, .int .i64 1] 2)) fun e w' => ∃ o1, e = .returned (.agg #[.slice (some o1) 1 1, .slice (some ⟨V.heap.size, 0, none⟩) 2 2]) ∧ Rd w' (some o1) 1 [2] ∧ Rd w' (some ⟨V.heap.size, 0, none⟩) 2 [2, 1] ∧ Sl (some ⟨V.heap.size, 0, none⟩) 2 2 ∧ Below (V.alloc (.cells #[.int .i64 2, .int .i64 1] 2)).heap.size (V.alloc (.cells #[.int .i64 2, .int .i64 1] 2)) w' :=
  (list7_any (some ⟨V.heap.size, 0, none⟩) 2 2 [2, 1] _ (ft_new 2 V [2, 1] (by simp) (by decide)).rd (by omega)).mono fun e w' ⟨o1, h1, h2, h3, h4⟩ => ⟨o1, h1, h2.rd, h3, (ft_new 2 V [2, 1] (by simp) (by decide)).sl, h4⟩
theorem l21d (V : World) : Calls Tryz.prog 13 #[.slice (some ⟨V.heap.size, 0, none⟩) 2 2] (V.alloc (.cells #[.int .i64 2, .int .i64 1] 2)).drew fun e w' => ∃ o1, e = .returned (.agg #[.slice (some o1) 1 1, .slice (some ⟨V.heap.size, 0, none⟩) 2 2]) ∧ Rd w' (some o1) 1 [2] ∧ Rd w' (some ⟨V.heap.size, 0, none⟩) 2 [2, 1] ∧ Sl (some ⟨V.heap.size, 0, none⟩) 2 2 ∧ Below (V.alloc (.cells #[.int .i64 2, .int .i64 1] 2)).drew.heap.size (V.alloc (.cells #[.int .i64 2, .int .i64 1] 2)).drew w' :=
  (list7_any (some ⟨V.heap.size, 0, none⟩) 2 2 [2, 1] _ ((ft_new 2 V [2, 1] (by simp) (by decide)).below (Below.refl _ _).drew (Nat.le_refl _)).rd (by omega)).mono fun e w' ⟨o1, h1, h2, h3, h4⟩ => ⟨o1, h1, h2.rd, h3, (ft_new 2 V [2, 1] (by simp) (by decide)).sl, h4⟩

theorem slQ1 (o : Addr) : Sl (some o) 1 1 := ⟨fun e => (by cases e), by omega, by omega⟩
/-- A list that lies in a box. -/
def HoldQ (V : World) (b j : Nat) (o : Option Addr) (n c : Nat) (zs : List Int) : Prop := V.cell? ⟨b, j, none⟩ = some (.slice o n c) ∧ Rd V o n zs
theorem HoldQ.below {V V' : World} {b j : Nat} {o : Option Addr} {n c : Nat} {zs : List Int} (h : HoldQ V b j o n c zs) (k : Below V.heap.size V V') : HoldQ V' b j o n c zs :=
  ⟨(k.cell (p := ⟨b, j, none⟩) (World.block_lt_of_cell? V _ h.1)).trans h.1, h.2.below k (Nat.le_refl _)⟩
theorem hold_boxQ {V : World} {o1 o2 : Option Addr} {n1 c1 n2 c2 : Nat} {S A : List Int} (h1 : Rd V o1 n1 S) (h2 : Rd V o2 n2 A) : HoldQ (V.alloc (.cells #[.slice o1 n1 c1, .slice o2 n2 c2] 30)) V.heap.size 0 o1 n1 c1 S ∧ HoldQ (V.alloc (.cells #[.slice o1 n1 c1, .slice o2 n2 c2] 30)) V.heap.size 1 o2 n2 c2 A := by
  obtain ⟨x0, x1, _, _⟩ := box2 (allocNew V (.cells #[.slice o1 n1 c1, .slice o2 n2 c2] 30))
  exact ⟨⟨x0, h1.below (box_below V _) (Nat.le_refl _)⟩, ⟨x1, h2.below (box_below V _) (Nat.le_refl _)⟩⟩
structure B7 (w V : World) (bA bB bC : Nat) (pA qA pB qB pC qC : Option Addr) (nA cA mA dA nB cB mB dB nC cC mC dC : Nat) : Prop where
  a0 : HoldQ V bA 0 pA nA cA [3]
  a1 : HoldQ V bA 1 qA mA dA [1, 2, 0]
  b0 : HoldQ V bB 0 pB nB cB [3]
  b1 : HoldQ V bB 1 qB mB dB [0, 3, 1]
  c0 : HoldQ V bC 0 pC nC cC [2]
  c1 : HoldQ V bC 1 qC mC dC [2, 1]
  bel : Below w.heap.size w V
theorem B7.below {w V V' : World} {bA bB bC : Nat} {pA qA pB qB pC qC : Option Addr} {nA cA mA dA nB cB mB dB nC cC mC dC : Nat} (h : B7 w V bA bB bC pA qA pB qB pC qC nA cA mA dA nB cB mB dB nC cC mC dC) (k : Below V.heap.size V V') : B7 w V' bA bB bC pA qA pB qB pC qC nA cA mA dA nB cB mB dB nC cC mC dC :=
  ⟨h.a0.below k, h.a1.below k, h.b0.below k, h.b1.below k, h.c0.below k, h.c1.below k, h.bel.trans (k.mono h.bel.size)⟩
theorem B7.drew {w V : World} {bA bB bC : Nat} {pA qA pB qB pC qC : Option Addr} {nA cA mA dA nB cB mB dB nC cC mC dC : Nat} (h : B7 w V bA bB bC pA qA pB qB pC qC nA cA mA dA nB cB mB dB nC cC mC dC) : B7 w V.drew bA bB bC pA qA pB qB pC qC nA cA mA dA nB cB mB dB nC cC mC dC := h.below (Below.refl _ _).drew
theorem B7.box {w V : World} {bA bB bC : Nat} {pA qA pB qB pC qC : Option Addr} {nA cA mA dA nB cB mB dB nC cC mC dC : Nat} (o : Obj) (h : B7 w V bA bB bC pA qA pB qB pC qC nA cA mA dA nB cB mB dB nC cC mC dC) : B7 w (V.alloc o) bA bB bC pA qA pB qB pC qC nA cA mA dA nB cB mB dB nC cC mC dC := h.below (box_below _ _)
theorem B7.all {w V : World} {bA bB bC : Nat} {pA qA pB qB pC qC : Option Addr} {nA cA mA dA nB cB mB dB nC cC mC dC : Nat} (h : B7 w V bA bB bC pA qA pB qB pC qC nA cA mA dA nB cB mB dB nC cC mC dC) : V.cell? ⟨bA, 0, none⟩ = some (.slice pA nA cA) ∧ V.cell? ⟨bA, 1, none⟩ = some (.slice qA mA dA) ∧ V.cell? ⟨bB, 0, none⟩ = some (.slice pB nB cB) ∧ V.cell? ⟨bB, 1, none⟩ = some (.slice qB mB dB) ∧ V.cell? ⟨bC, 0, none⟩ = some (.slice pC nC cC) ∧ V.cell? ⟨bC, 1, none⟩ = some (.slice qC mC dC) ∧ B7 w V bA bB bC pA qA pB qB pC qC nA cA mA dA nB cB mB dB nC cC mC dC := ⟨h.a0.1, h.a1.1, h.b0.1, h.b1.1, h.c0.1, h.c1.1, h⟩

set_option maxHeartbeats 8000000 in
set_option maxRecDepth 20000 in
theorem begun7_any (w : World) : Calls Tryz.prog 4 #[] w fun e w' => e = .returned (.bool true) ∧ Below w.heap.size w w' := by
  go_enter Tryz.func4, Tryz.ntmps4
  go_upto_region 4 with (first
    | (go_at_call 13; (with_reducible refine (l312 w).mono ?_); rintro e W1 ⟨s1, rfl, r1, t1, u1, k1⟩; have L1 : Below w.heap.size w W1 := (box_below w _).trans (k1.mono (by simp)))
    | (go_at_call 12; (with_reducible refine (c7_up W1 _ _ _ _ r1 (slQ1 _) t1 u1).mono ?_); rintro e W2 ⟨pA, nA, cA, qA, mA, dA, S2, A2, rfl, f2, g2, ⟨rfl, rfl⟩, k2⟩; have hA := hold_boxQ (c1 := cA) (c2 := dA) f2.rd g2.rd; have L2 : Below w.heap.size w (W2.alloc (.cells #[.slice pA nA cA, .slice qA mA dA] 30)) := (L1.trans (k2.mono L1.size)).trans ((box_below W2 _).mono (Nat.le_trans L1.size k2.size)); have cl := l565 (W2.alloc (.cells #[.slice pA nA cA, .slice qA mA dA] 30)); simp only [World.size_alloc] at cl)
    | (go_at_call 13; (with_reducible refine (cl).mono ?_); rintro e W3 ⟨s3, rfl, r3, t3, u3, k3⟩; have k3x : Below ((W2.alloc (.cells #[.slice pA nA cA, .slice qA mA dA] 30)).alloc (.cells #[.int .i64 5, .int .i64 6, .int .i64 5] 2)).heap.size ((W2.alloc (.cells #[.slice pA nA cA, .slice qA mA dA] 30)).alloc (.cells #[.int .i64 5, .int .i64 6, .int .i64 5] 2)) W3 := (by simpa only [World.size_alloc] using k3); have hA3 := And.intro ((hA.1.below (box_below (W2.alloc (.cells #[.slice pA nA cA, .slice qA mA dA] 30)) (.cells #[.int .i64 5, .int .i64 6, .int .i64 5] 2))).below k3x) ((hA.2.below (box_below (W2.alloc (.cells #[.slice pA nA cA, .slice qA mA dA] 30)) (.cells #[.int .i64 5, .int .i64 6, .int .i64 5] 2))).below k3x); have L3 := (L2.trans ((box_below (W2.alloc (.cells #[.slice pA nA cA, .slice qA mA dA] 30)) (.cells #[.int .i64 5, .int .i64 6, .int .i64 5] 2)).mono L2.size)).trans (k3x.mono (Nat.le_trans L2.size (by simp))); clear cl k3)
    | (go_at_call 13; (with_reducible refine (l596 W3).mono ?_); rintro e W4 ⟨s4, rfl, r4, t4, u4, k4⟩; have k4b := box_below W3 (.cells #[.int .i64 5, .int .i64 9, .int .i64 6] 2); have k4a : Below W3.heap.size W3 W4 := k4b.trans (k4.mono (by simp)); have hA4 := And.intro (hA3.1.below k4a) (hA3.2.below k4a); have L4 := L3.trans (k4a.mono L3.size))
    | (go_at_call 14; (with_reducible refine (c7_iota W4 _ _ _ _ _ _ _ _ (r3.below k4a (Nat.le_refl _)) (slQ1 _) (t3.below k4a (Nat.le_refl _)) u3 r4 (slQ1 _) t4 u4).mono ?_); rintro e W5 ⟨pB, nB, cB, qB, mB, dB, S5, A5, rfl, f5, g5, ⟨rfl, rfl⟩, k5⟩; have kb5 := box_below W5 (.cells #[.slice pB nB cB, .slice qB mB dB] 30); have hA5 := And.intro ((hA4.1.below k5).below kb5) ((hA4.2.below k5).below kb5); have hB := hold_boxQ (c1 := cB) (c2 := dB) f5.rd g5.rd; have L5 : Below w.heap.size w (W5.alloc (.cells #[.slice pB nB cB, .slice qB mB dB] 30)) := (L4.trans (k5.mono L4.size)).trans (kb5.mono (Nat.le_trans L4.size k5.size)); have cl := l221 (W5.alloc (.cells #[.slice pB nB cB, .slice qB mB dB] 30)); simp only [World.size_alloc] at cl)
    | (go_at_call 13; (with_reducible refine (cl).mono ?_); rintro e W6 ⟨s6, rfl, r6, t6, u6, k6⟩; have k6x : Below ((W5.alloc (.cells #[.slice pB nB cB, .slice qB mB dB] 30)).alloc (.cells #[.int .i64 2, .int .i64 2, .int .i64 1] 2)).heap.size ((W5.alloc (.cells #[.slice pB nB cB, .slice qB mB dB] 30)).alloc (.cells #[.int .i64 2, .int .i64 2, .int .i64 1] 2)) W6 := (by simpa only [World.size_alloc] using k6); have k6b := box_below (W5.alloc (.cells #[.slice pB nB cB, .slice qB mB dB] 30)) (.cells #[.int .i64 2, .int .i64 2, .int .i64 1] 2); have k6a : Below (W5.alloc (.cells #[.slice pB nB cB, .slice qB mB dB] 30)).heap.size (W5.alloc (.cells #[.slice pB nB cB, .slice qB mB dB] 30)) W6 := k6b.trans (k6x.mono (by simp)); have hA6 := And.intro (hA5.1.below k6a) (hA5.2.below k6a); have hB6 := And.intro (hB.1.below k6a) (hB.2.below k6a); have L6 := L5.trans (k6a.mono L5.size); clear cl k6)
    | (go_at_call 12; (with_reducible refine (c7_nub W6 _ _ _ _ r6 (slQ1 _) t6 u6).mono ?_); rintro e W7 ⟨pC, nC, cC, qC, mC, dC, S7, A7, rfl, f7, g7, ⟨rfl, rfl⟩, k7⟩; have kb7 := box_below W7 (.cells #[.slice pC nC cC, .slice qC mC dC] 30); have hC := hold_boxQ (c1 := cC) (c2 := dC) f7.rd g7.rd; have BH : B7 w (W7.alloc (.cells #[.slice pC nC cC, .slice qC mC dC] 30)) W2.heap.size W5.heap.size W7.heap.size pA qA pB qB pC qC nA cA mA dA nB cB mB dB nC cC mC dC := ⟨(hA6.1.below k7).below kb7, (hA6.2.below k7).below kb7, (hB6.1.below k7).below kb7, (hB6.2.below k7).below kb7, hC.1, hC.2, (L6.trans (k7.mono L6.size)).trans (kb7.mono (Nat.le_trans L6.size k7.size))⟩))
  clear hA hA3 hA4 hA5 hA6 hB hB6 hC L1 L2 L3 L4 L5 L6 k1 k2 k3x k4 k4a k4b k5 k6x k6a k6b k7 kb5 kb7 r1 t1 u1 f2 g2 r3 t3 u3 r4 t4 u4 f5 g5 r6 t6 u6 f7 g7
  generalize W7.alloc (.cells #[.slice pC nC cC, .slice qC mC dC] 30) = X7 at *
  generalize W2.heap.size = bA at *
  generalize W5.heap.size = bB at *
  generalize W7.heap.size = bC at *
  go_region_held3 (fun V => V.cell? ⟨bA, 0, none⟩ = some (.slice pA nA cA) ∧ V.cell? ⟨bA, 1, none⟩ = some (.slice qA mA dA) ∧ V.cell? ⟨bB, 0, none⟩ = some (.slice pB nB cB) ∧ V.cell? ⟨bB, 1, none⟩ = some (.slice qB mB dB) ∧ V.cell? ⟨bC, 0, none⟩ = some (.slice pC nC cC) ∧ V.cell? ⟨bC, 1, none⟩ = some (.slice qC mC dC) ∧ B7 w V bA bB bC pA qA pB qB pC qC nA cA mA dA nB cB mB dB nC cC mC dC) (first | exact B7.all (by assumption) | exact B7.all (B7.drew (by assumption)) | exact B7.all (B7.box _ (by assumption)) | exact B7.all (B7.drew (B7.box _ (by assumption))))
    (first
      | (go_at_call 13; have HB := (‹_ ∧ _ ∧ _ ∧ _ ∧ _ ∧ _ ∧ B7 w _ _ _ _ _ _ _ _ _ _ _ _ _ _ _ _ _ _ _ _ _ _›).2.2.2.2.2.2; (with_reducible refine (l120 _).mono ?_); rintro e v2 ⟨u1, rfl, q1, q2, q3, g2⟩; have G2 := HB.below g2)
      | (go_at_call 13; have HB := (‹_ ∧ _ ∧ _ ∧ _ ∧ _ ∧ _ ∧ B7 w _ _ _ _ _ _ _ _ _ _ _ _ _ _ _ _ _ _ _ _ _ _›).2.2.2.2.2.2; (with_reducible refine (l120d _).mono ?_); rintro e v2 ⟨u1, rfl, q1, q2, q3, g2⟩; have G2 := HB.below g2)
      | (go_at_call 13; have HB := (‹_ ∧ _ ∧ _ ∧ _ ∧ _ ∧ _ ∧ B7 w _ _ _ _ _ _ _ _ _ _ _ _ _ _ _ _ _ _ _ _ _ _›).2.2.2.2.2.2; (with_reducible refine (l031 _).mono ?_); rintro e v2 ⟨u1, rfl, q1, q2, q3, g2⟩; have G2 := HB.below g2)
      | (go_at_call 13; have HB := (‹_ ∧ _ ∧ _ ∧ _ ∧ _ ∧ _ ∧ B7 w _ _ _ _ _ _ _ _ _ _ _ _ _ _ _ _ _ _ _ _ _ _›).2.2.2.2.2.2; (with_reducible refine (l031d _).mono ?_); rintro e v2 ⟨u1, rfl, q1, q2, q3, g2⟩; have G2 := HB.below g2)
      | (go_at_call 13; have HB := (‹_ ∧ _ ∧ _ ∧ _ ∧ _ ∧ _ ∧ B7 w _ _ _ _ _ _ _ _ _ _ _ _ _ _ _ _ _ _ _ _ _ _›).2.2.2.2.2.2; (with_reducible refine (l21 _).mono ?_); rintro e v2 ⟨u1, rfl, q1, q2, q3, g2⟩; have G2 := HB.below g2)
      | (go_at_call 13; have HB := (‹_ ∧ _ ∧ _ ∧ _ ∧ _ ∧ _ ∧ B7 w _ _ _ _ _ _ _ _ _ _ _ _ _ _ _ _ _ _ _ _ _ _›).2.2.2.2.2.2; (with_reducible refine (l21d _).mono ?_); rintro e v2 ⟨u1, rfl, q1, q2, q3, g2⟩; have G2 := HB.below g2)
      | (go_at_call 11; have HB := (‹_ ∧ _ ∧ _ ∧ _ ∧ _ ∧ _ ∧ B7 w _ _ _ _ _ _ _ _ _ _ _ _ _ _ _ _ _ _ _ _ _ _›).2.2.2.2.2.2; have HR := HB.a0.2; have HR2 := HB.a1.2; (with_reducible refine (eqT _ _ _ _ _ _ _ _ _ _ _ _ _ _ _ HR HR2 q1 q2).mono ?_); rintro e v3 ⟨rfl, g3⟩; have G3 := HB.below g3)
      | (go_at_call 11; have HB := (‹_ ∧ _ ∧ _ ∧ _ ∧ _ ∧ _ ∧ B7 w _ _ _ _ _ _ _ _ _ _ _ _ _ _ _ _ _ _ _ _ _ _›).2.2.2.2.2.2; have HR := HB.b0.2; have HR2 := HB.b1.2; (with_reducible refine (eqT _ _ _ _ _ _ _ _ _ _ _ _ _ _ _ HR HR2 q1 q2).mono ?_); rintro e v3 ⟨rfl, g3⟩; have G3 := HB.below g3)
      | (go_at_call 11; have HB := (‹_ ∧ _ ∧ _ ∧ _ ∧ _ ∧ _ ∧ B7 w _ _ _ _ _ _ _ _ _ _ _ _ _ _ _ _ _ _ _ _ _ _›).2.2.2.2.2.2; have HR := HB.c0.2; have HR2 := HB.c1.2; (with_reducible refine (eqT _ _ _ _ _ _ _ _ _ _ _ _ _ _ _ HR HR2 q1 q2).mono ?_); rintro e v3 ⟨rfl, g3⟩; have G3 := HB.below g3)
      | (go_at_call 5; have HB := (‹_ ∧ _ ∧ _ ∧ _ ∧ _ ∧ _ ∧ B7 w _ _ _ _ _ _ _ _ _ _ _ _ _ _ _ _ _ _ _ _ _ _›).2.2.2.2.2.2; (with_reducible refine (hasS_36_1 _).mono ?_); rintro e v4 ⟨rfl, g4⟩; have G4 := HB.below g4)
      | (go_at_call 5; have HB := (‹_ ∧ _ ∧ _ ∧ _ ∧ _ ∧ _ ∧ B7 w _ _ _ _ _ _ _ _ _ _ _ _ _ _ _ _ _ _ _ _ _ _›).2.2.2.2.2.2; (with_reducible refine (hasS_36_2 _).mono ?_); rintro e v5 ⟨rfl, g5⟩; have G5 := HB.below g5))
  all_goals (go_wp2; go_ret; exact ⟨rfl, G5.bel⟩)
end Go.Proofs.YtmepcenbaohcoaaGreat
