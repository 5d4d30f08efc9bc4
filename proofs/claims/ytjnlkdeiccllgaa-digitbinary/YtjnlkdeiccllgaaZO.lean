
/- Contracts: what the statements of layer 8 hand in, and the calls that each asks ahead. -/

import Derived.Test.YtjnlkdeiccllgaaZNd

namespace Go.Proofs.Ytjnlkdeiccllgaa

open Go.RowKit

set_option linter.unusedVariables false

set_option maxHeartbeats 1000000 in
theorem list8_any (ao : Option Addr) (n c : Nat) (zs : List Int) (w : World) (h : Rd w ao n zs) (hs : Sl ao n c) (hn : n ≤ 5000) : Calls Try.prog 9 #[.slice ao n c] w fun e w' => ∃ o1 c1 o2 c2, e = .returned (.agg #[.slice (some o1) 1 c1, .slice o2 n c2]) ∧ Ft 3 w' w.heap.size (some o1) 1 c1 [(n : Int)] ∧ Ft 2 w' w.heap.size o2 n c2 zs ∧ Below w.heap.size w w' := by
  have k0 := box_below w (.cells #[.slice none 0 0, .slice none 0 0] 26)
  have b0 := allocNew w (.cells #[.slice none 0 0, .slice none 0 0] 26)
  have f1 := ft_new 3 (w.alloc (.cells #[.slice none 0 0, .slice none 0 0] 26)) [(n : Int)] (by simp) (num1 (by omega) (by omega))
  have f1' : Ft 3 ((w.alloc (.cells #[.slice none 0 0, .slice none 0 0] 26)).alloc (.cells #[.int .i64 (n : Nat)] 3)) _ _ 1 1 [(n : Int)] := f1
  have k1 := box_below (w.alloc (.cells #[.slice none 0 0, .slice none 0 0] 26)) (.cells #[.int .i64 (n : Nat)] 3)
  simp only [World.size_alloc] at f1' k1
  have kk := k0.trans (k1.mono (by omega))
  have b1 := (k1.block _ (by omega)).trans b0
  have h1 := h.below kk (Nat.le_refl _)
  have sz : ((w.alloc (.cells #[.slice none 0 0, .slice none 0 0] 26)).alloc (.cells #[.int .i64 (n : Nat)] 3)).heap.size = w.heap.size + 2 := by simp
  go_enter Try.func9, Try.ntmps9
  go_wp2_with (at_builtin; refine wpList_joinT tyL rfl _ _ rfl (w.heap.size + 2) none ao 0 0 n c [] zs rfl rfl (Ft.nil _ _ _) h1 hs (by omega) (by omega) ?_; intro co3 c3 w3 f3 b3; rw [Nat.zero_add, List.nil_append] at f3; obtain ⟨q0, q1, q2, q3⟩ := box2 ((b3.block _ (by omega)).trans b1))
  (try simp only [Exit.inBlock, Exit.then])
  refine bodyPost_ret (v := .agg #[.slice (some ⟨w.heap.size + 1, 0, none⟩) 1 1, .slice co3 n c3]) (by simp [results, Try.results9]; go_simp) rfl ?_
  exact ⟨_, _, _, _, rfl, (ft_setQ (f1'.below b3 (by omega)) (by omega) _ _).mono (by omega), (ft_setQ f3 (by omega) _ _).mono (by omega), below_set2 _ _ _ _ (kk.trans (b3.mono (by omega))) (Nat.le_refl _) (Nat.le_refl _)⟩
set_option maxHeartbeats 1000000 in
theorem scalar8_any (n : Int) (w : World) (h1 : -9223372036854775808 ≤ n) (h2 : n ≤ 9223372036854775807) :
    Calls Try.prog 11 #[.int .i64 n] w fun e w' => ∃ ao c, e = .returned (.agg #[.slice none 0 0, .slice ao 1 c]) ∧ Ft 2 w' w.heap.size ao 1 c [n] ∧ Below w.heap.size w w' := by
  go_enter Try.func11, Try.ntmps11
  go_wp2
  go_returns
  refine ⟨_, _, rfl, ?_, ?_⟩
  · have := ft_new 2 (w.alloc (.cells #[.slice none 0 0, .slice (some ⟨w.heap.size + 1, 0, none⟩) 1 1] 26)) [n] (by simp) (num1 h1 h2)
    rw [World.size_alloc] at this
    exact this.mono (by omega)
  · exact (box_below w _).alloc (by simp) _
theorem sl1 (o : Addr) : Sl (some o) 1 1 := ⟨fun e => (by cases e), by omega, by omega⟩
set_option maxHeartbeats 1000000 in
theorem fromBinary_any (uo bo : Option Addr) (un uc bn bc : Nat) (sy ay : List Int) (w : World) (hy : Rd w uo un sy) (gy : Rd w bo bn ay) (gsy : Sl bo bn bc) (my : mayA sy ay = 0) :
    Calls Try.prog 25 #[.agg #[.slice uo un uc, .slice bo bn bc]] w fun e w' => AnsQ w (fun S A => S = [] ∧ A = fbA (fbR (takL [] [2] ay.length) (takL sy ay 1) (fbN [] sy [2] ay))) (fbE (fbR (takL [] [2] ay.length) (takL sy ay 1) (fbN [] sy [2] ay))) e w' := by
  have U0 := un_startQ w uo un uc bo bn bc
  have s0 := U0.sz
  obtain ⟨x0, x1, _, _⟩ := box2 U0.x
  have al : ∀ V, UnQ w V uo un uc bo bn bc → V.cell? ⟨w.heap.size, 0, none⟩ = some (.slice uo un uc) ∧ V.cell? ⟨w.heap.size, 1, none⟩ = some (.slice bo bn bc) := fun V D => ⟨(box2 D.x).1, (box2 D.x).2.1⟩
  have U1 : UnQ w ((w.alloc (.cells #[.slice uo un uc, .slice bo bn bc] 26)).alloc (.cells #[.slice none 0 0, .slice none 0 0] 26)).drew uo un uc bo bn bc := U0.below (B := w.heap.size + 2) (Below.refl _ _).drew (Nat.le_refl _)
  have cF := fun V (D : UnQ w V uo un uc bo bn bc) o c (f : Rd V o 1 [2]) (g : Sl o 1 c) => fromBase_any none o uo bo 0 0 1 c un uc bn bc [] [2] sy ay V (Rd.nil V) f g (hy.below D.bel (Nat.le_refl _)) (gy.below D.bel (Nat.le_refl _)) gsy (by decide) my (.inl rfl)
  have cS := fun V => scalar_any 2 V (by omega) (by omega)
  simp only [show ([2] : List Int).length = 1 from rfl] at cF
  generalize fbR (takL [] [2] ay.length) (takL sy ay 1) (fbN [] sy [2] ay) = FB at *
  generalize hE : fbE FB = E at *
  generalize hA : fbA FB = A0 at *
  clear hE hA
  go_enter Try.func25, Try.ntmps25
  go_wp2
  go_region_held3 (fun V => V.cell? ⟨w.heap.size, 0, none⟩ = some (.slice uo un uc) ∧ V.cell? ⟨w.heap.size, 1, none⟩ = some (.slice bo bn bc)) (first | exact al _ U1 | exact al _ U2 | exact al _ U3 | exact S6)
    (first
      | (go_at_call 37; (with_reducible refine (cS _).mono ?_); rintro e w2 ⟨o2, c2, rfl, f2, k2⟩; have U2 := U1.below k2 U1.sz; have s2 := U2.sz)
      | (go_at_call 26; (with_reducible refine (cF _ U2 _ _ f2.rd f2.sl).mono ?_); rintro e w4 ⟨o1, n1, c1, o3, n3, c3, S, A, rfl, F1, F2, hΦ, b4⟩; have U3 := U2.below b4 s2; have s3 := U3.sz; obtain ⟨r0, r1, r2, r3⟩ := box2 U3.r; have kk := set2 w4 (w.heap.size + 1) 0 1 (.slice o1 n1 c1) (.slice o3 n3 c3); have xx := box2 ((kk.block w.heap.size (by omega) (fun e => by injection e with e; omega)).trans U3.x); have S6 : _ ∧ _ := ⟨xx.1, xx.2.1⟩))
  go_wp2
  (try simp only [Exit.inBlock, Exit.then])
  refine bodyPost_ret (v := .tuple #[.agg #[.slice o1 n1 c1, .slice o3 n3 c3], .int .i64 E]) (by rw [results_cell_tmp rfl]; go_simp) rfl ?_
  exact ⟨o1, n1, c1, o3, n3, c3, S, A, rfl, (ft_setQ F1 (by omega) _ _).mono (by omega), (ft_setQ F2 (by omega) _ _).mono (by omega), hΦ, below_set2 _ _ _ _ U3.bel (by omega) (Nat.le_refl _)⟩

theorem eqT (V : World) (so ao uo bo : Option Addr) (sn sc an ac tn tc bn bc : Nat) (S A : List Int) (h : Rd V so sn S) (g : Rd V ao an A) (p : Rd V uo tn S) (q : Rd V bo bn A) :
    Calls Try.prog 13 #[.agg #[.slice so sn sc, .slice ao an ac], .agg #[.slice uo tn tc, .slice bo bn bc]] V fun e w' => e = .returned (.bool true) ∧ Below V.heap.size V w' :=
  (eq4_any so ao uo bo sn sc an ac tn tc bn bc S A S A V h g p q).mono fun e w' ⟨e1, e2⟩ => ⟨by rw [e1]; rw [show eqA S A S A = true by unfold eqA; rw [eqB_refl, eqB_refl]; rfl], e2⟩

theorem c8_iota (w : World) (so ao : Option Addr) (sc ac : Nat) (hs : Rd w so 1 [2]) (ha : Rd w ao 2 [2, -2]) : Calls Try.prog 8 #[.int .i64 34, .agg #[.slice so 1 sc, .slice ao 2 ac]] w fun e w' => AnsQ w (fun S A => S = [2, 2] ∧ A = [1, 0, 3, 2]) 0 e w' :=
  monadZ_34 so ao 1 sc 2 ac [2] [2, -2] _ 0 w hs ha (by decide) (by omega) (fun V k => (count_ok so ao 1 sc 2 ac [2, -2] V (ha.below k (Nat.le_refl _)) (by omega) (by decide) (by decide)).mono fun e w' h => h.imp (fun S A ⟨h1, h2⟩ => ⟨by rw [h1]; decide, by rw [h2]; decide⟩))
theorem c8_tally (w : World) (xo yo so ao : Option Addr) (xc yc sc ac : Nat) (hx : Rd w xo 1 [2]) (hy : Rd w yo 2 [0, 2]) (sy : Sl yo 2 yc) (hs : Rd w so 1 [2]) (ss : Sl so 1 sc) (ha : Rd w ao 2 [7, 8]) (sa : Sl ao 2 ac) : Calls Try.prog 12 #[.int .i64 22, .agg #[.slice xo 1 xc, .slice yo 2 yc], .agg #[.slice so 1 sc, .slice ao 2 ac]] w fun e w' => AnsQ w (fun S A => S = [2] ∧ A = [8, 8]) 0 e w' :=
  dyadZ_22 xo yo so ao 1 xc 2 yc 1 sc 2 ac [2] [0, 2] [2] [7, 8] _ 0 w hx hy hs ha (by decide) (by decide) (by omega) (by omega) (fun V k => (copies_any xo yo so ao 1 xc 2 yc 1 sc 2 ac [2] [0, 2] [2] [7, 8] V (hx.below k (Nat.le_refl _)) (hy.below k (Nat.le_refl _)) sy (hs.below k (Nat.le_refl _)) ss (ha.below k (Nat.le_refl _)) sa (by decide) (by decide)).mono fun e w' h => by
    rw [show cpE [2] [0, 2] [2] = 0 by decide] at h
    exact h.imp (fun S A ⟨h1, h2⟩ => ⟨by rw [h1]; decide, by rw [h2]; decide⟩))
theorem c8_anti (w : World) (xo yo so ao : Option Addr) (xc yc sc ac : Nat) (hx : Rd w xo 1 [3]) (sx : Sl xo 1 xc) (hy : Rd w yo 3 [24, 60, 60]) (hs : Rd w so 0 []) (ha : Rd w ao 1 [3723]) : Calls Try.prog 12 #[.int .i64 40, .agg #[.slice xo 1 xc, .slice yo 3 yc], .agg #[.slice so 0 sc, .slice ao 1 ac]] w fun e w' => AnsQ w (fun S A => S = [3] ∧ A = [1, 2, 3]) 0 e w' :=
  dyadZ_40 xo yo so ao 1 xc 3 yc 0 sc 1 ac [3] [24, 60, 60] [] [3723] _ 0 w hx hy hs ha (by decide) (by decide) (by omega) (by omega) (fun V k => (toBase_ok xo yo so ao 1 xc 3 yc 0 sc 1 ac [3] [24, 60, 60] [3723] 3723 V (hx.below k (Nat.le_refl _)) sx (by omega) (hy.below k (Nat.le_refl _)) (by omega) (ha.below k (Nat.le_refl _)) (by omega) rfl (by decide)).mono fun e w' h => h.imp (fun S A ⟨h1, h2⟩ => ⟨h1, by rw [h2]; decide⟩))
theorem c8_base (w : World) (xo yo so ao : Option Addr) (xc yc sc ac : Nat) (hx : Rd w xo 0 []) (hy : Rd w yo 1 [10]) (sy : Sl yo 1 yc) (hs : Rd w so 1 [3]) (ha : Rd w ao 3 [3, 4, 5]) (sa : Sl ao 3 ac) : Calls Try.prog 12 #[.int .i64 39, .agg #[.slice xo 0 xc, .slice yo 1 yc], .agg #[.slice so 1 sc, .slice ao 3 ac]] w fun e w' => AnsQ w (fun S A => S = [] ∧ A = [345]) 0 e w' :=
  dyadZ_39 xo yo so ao 0 xc 1 yc 1 sc 3 ac [] [10] [3] [3, 4, 5] _ 0 w hx hy hs ha (by decide) (by decide) (by omega) (by omega) (fun V k => (fromBase_any xo yo so ao 0 xc 1 yc 1 sc 3 ac [] [10] [3] [3, 4, 5] V (hx.below k (Nat.le_refl _)) (hy.below k (Nat.le_refl _)) sy (hs.below k (Nat.le_refl _)) (ha.below k (Nat.le_refl _)) sa (by decide) (by decide) (.inl rfl)).mono fun e w' h => by
    rw [show fbE (fbR (takL [] [10] ([3, 4, 5] : List Int).length) (takL [3] [3, 4, 5] ([10] : List Int).length) (fbN [] [3] [10] [3, 4, 5])) = 0 by decide] at h
    exact h.imp (fun S A ⟨h1, h2⟩ => ⟨h1, by rw [h2]; decide⟩))
theorem c8_where (w : World) (so ao : Option Addr) (sc ac : Nat) (hs : Rd w so 1 [3]) (ha : Rd w ao 3 [0, 2, 1]) (sa : Sl ao 3 ac) : Calls Try.prog 8 #[.int .i64 43, .agg #[.slice so 1 sc, .slice ao 3 ac]] w fun e w' => AnsQ w (fun S A => S = [3] ∧ A = [1, 1, 2]) 0 e w' :=
  monadZ_43 so ao 1 sc 3 ac [3] [0, 2, 1] _ 0 w hs ha (by decide) (by omega) (fun V k => (where_any so ao 1 sc 3 ac [3] [0, 2, 1] V (hs.below k (Nat.le_refl _)) (ha.below k (Nat.le_refl _)) sa (by decide)).mono fun e w' h => by
    rw [show cpE [3] [0, 2, 1] [((3 : Nat) : Int)] = 0 by decide] at h
    exact h.imp (fun S A ⟨h1, h2⟩ => ⟨by rw [h1]; decide, by rw [h2]; decide⟩))
theorem c8_val (w : World) (so ao : Option Addr) (sc ac : Nat) (hs : Rd w so 0 []) (ha : Rd w ao 1 [1]) : Calls Try.prog 8 #[.int .i64 22, .agg #[.slice so 0 sc, .slice ao 1 ac]] w fun e w' => AnsQ w (fun S A => S = [] ∧ A = []) 16 e w' :=
  monadZ_22 so ao 0 sc 1 ac [] [1] w hs ha (by decide)
theorem l2m2 (V : World) : Calls Try.prog 9 #[.slice (some ⟨V.heap.size, 0, none⟩) 2 2] (V.alloc (.cells #[.int .i64 2, .int .i64 (-2)] 2)) fun e w' => ∃ o1 c1 o2 c2, e = .returned (.agg #[.slice (some o1) 1 c1, .slice o2 2 c2]) ∧ Rd w' (some o1) 1 [2] ∧ Sl (some o1) 1 c1 ∧ Rd w' o2 2 [2, -2] ∧ Sl o2 2 c2 ∧ Below V.heap.size V w' :=
  (list8_any (some ⟨V.heap.size, 0, none⟩) 2 2 [2, -2] _ (ft_new 2 V [2, -2] (by simp) (by decide)).rd (ft_new 2 V [2, -2] (by simp) (by decide)).sl (by omega)).mono fun e w' ⟨o1, c1, o2, c2, h1, h2, h3, h4⟩ => ⟨o1, c1, o2, c2, h1, h2.rd, h2.sl, h3.rd, h3.sl, (box_below V _).trans (h4.mono (box_below V _).size)⟩
theorem l2m2r (V : World) : Calls Try.prog 9 #[.slice (some ⟨V.heap.size, 0, none⟩) 2 2] (V.alloc (.cells #[.int .i64 2, .int .i64 (-2)] 2)) fun e w' => ∃ o1 c1 o2 c2, e = .returned (.agg #[.slice (some o1) 1 c1, .slice o2 2 c2]) ∧ Rd w' (some o1) 1 [2] ∧ Rd w' o2 2 [2, -2] ∧ Below (V.alloc (.cells #[.int .i64 2, .int .i64 (-2)] 2)).heap.size (V.alloc (.cells #[.int .i64 2, .int .i64 (-2)] 2)) w' :=
  (list8_any (some ⟨V.heap.size, 0, none⟩) 2 2 [2, -2] _ (ft_new 2 V [2, -2] (by simp) (by decide)).rd (ft_new 2 V [2, -2] (by simp) (by decide)).sl (by omega)).mono fun e w' ⟨o1, c1, o2, c2, h1, h2, h3, h4⟩ => ⟨o1, c1, o2, c2, h1, h2.rd, h3.rd, h4⟩
theorem l2m2d (V : World) : Calls Try.prog 9 #[.slice (some ⟨V.heap.size, 0, none⟩) 2 2] (V.alloc (.cells #[.int .i64 2, .int .i64 (-2)] 2)).drew fun e w' => ∃ o1 c1 o2 c2, e = .returned (.agg #[.slice (some o1) 1 c1, .slice o2 2 c2]) ∧ Rd w' (some o1) 1 [2] ∧ Rd w' o2 2 [2, -2] ∧ Below (V.alloc (.cells #[.int .i64 2, .int .i64 (-2)] 2)).drew.heap.size (V.alloc (.cells #[.int .i64 2, .int .i64 (-2)] 2)).drew w' :=
  (list8_any (some ⟨V.heap.size, 0, none⟩) 2 2 [2, -2] _ ((ft_new 2 V [2, -2] (by simp) (by decide)).below (Below.refl _ _).drew (Nat.le_refl _)).rd (ft_new 2 V [2, -2] (by simp) (by decide)).sl (by omega)).mono fun e w' ⟨o1, c1, o2, c2, h1, h2, h3, h4⟩ => ⟨o1, c1, o2, c2, h1, h2.rd, h3.rd, h4⟩
theorem l02 (V : World) : Calls Try.prog 9 #[.slice (some ⟨V.heap.size, 0, none⟩) 2 2] (V.alloc (.cells #[.int .i64 0, .int .i64 2] 2)) fun e w' => ∃ o1 c1 o2 c2, e = .returned (.agg #[.slice (some o1) 1 c1, .slice o2 2 c2]) ∧ Rd w' (some o1) 1 [2] ∧ Sl (some o1) 1 c1 ∧ Rd w' o2 2 [0, 2] ∧ Sl o2 2 c2 ∧ Below V.heap.size V w' :=
  (list8_any (some ⟨V.heap.size, 0, none⟩) 2 2 [0, 2] _ (ft_new 2 V [0, 2] (by simp) (by decide)).rd (ft_new 2 V [0, 2] (by simp) (by decide)).sl (by omega)).mono fun e w' ⟨o1, c1, o2, c2, h1, h2, h3, h4⟩ => ⟨o1, c1, o2, c2, h1, h2.rd, h2.sl, h3.rd, h3.sl, (box_below V _).trans (h4.mono (box_below V _).size)⟩
theorem l02r (V : World) : Calls Try.prog 9 #[.slice (some ⟨V.heap.size, 0, none⟩) 2 2] (V.alloc (.cells #[.int .i64 0, .int .i64 2] 2)) fun e w' => ∃ o1 c1 o2 c2, e = .returned (.agg #[.slice (some o1) 1 c1, .slice o2 2 c2]) ∧ Rd w' (some o1) 1 [2] ∧ Rd w' o2 2 [0, 2] ∧ Below (V.alloc (.cells #[.int .i64 0, .int .i64 2] 2)).heap.size (V.alloc (.cells #[.int .i64 0, .int .i64 2] 2)) w' :=
  (list8_any (some ⟨V.heap.size, 0, none⟩) 2 2 [0, 2] _ (ft_new 2 V [0, 2] (by simp) (by decide)).rd (ft_new 2 V [0, 2] (by simp) (by decide)).sl (by omega)).mono fun e w' ⟨o1, c1, o2, c2, h1, h2, h3, h4⟩ => ⟨o1, c1, o2, c2, h1, h2.rd, h3.rd, h4⟩
theorem l02d (V : World) : Calls Try.prog 9 #[.slice (some ⟨V.heap.size, 0, none⟩) 2 2] (V.alloc (.cells #[.int .i64 0, .int .i64 2] 2)).drew fun e w' => ∃ o1 c1 o2 c2, e = .returned (.agg #[.slice (some o1) 1 c1, .slice o2 2 c2]) ∧ Rd w' (some o1) 1 [2] ∧ Rd w' o2 2 [0, 2] ∧ Below (V.alloc (.cells #[.int .i64 0, .int .i64 2] 2)).drew.heap.size (V.alloc (.cells #[.int .i64 0, .int .i64 2] 2)).drew w' :=
  (list8_any (some ⟨V.heap.size, 0, none⟩) 2 2 [0, 2] _ ((ft_new 2 V [0, 2] (by simp) (by decide)).below (Below.refl _ _).drew (Nat.le_refl _)).rd (ft_new 2 V [0, 2] (by simp) (by decide)).sl (by omega)).mono fun e w' ⟨o1, c1, o2, c2, h1, h2, h3, h4⟩ => ⟨o1, c1, o2, c2, h1, h2.rd, h3.rd, h4⟩
theorem l78 (V : World) : Calls Try.prog 9 #[.slice (some ⟨V.heap.size, 0, none⟩) 2 2] (V.alloc (.cells #[.int .i64 7, .int .i64 8] 2)) fun e w' => ∃ o1 c1 o2 c2, e = .returned (.agg #[.slice (some o1) 1 c1, .slice o2 2 c2]) ∧ Rd w' (some o1) 1 [2] ∧ Sl (some o1) 1 c1 ∧ Rd w' o2 2 [7, 8] ∧ Sl o2 2 c2 ∧ Below V.heap.size V w' :=
  (list8_any (some ⟨V.heap.size, 0, none⟩) 2 2 [7, 8] _ (ft_new 2 V [7, 8] (by simp) (by decide)).rd (ft_new 2 V [7, 8] (by simp) (by decide)).sl (by omega)).mono fun e w' ⟨o1, c1, o2, c2, h1, h2, h3, h4⟩ => ⟨o1, c1, o2, c2, h1, h2.rd, h2.sl, h3.rd, h3.sl, (box_below V _).trans (h4.mono (box_below V _).size)⟩
theorem l78r (V : World) : Calls Try.prog 9 #[.slice (some ⟨V.heap.size, 0, none⟩) 2 2] (V.alloc (.cells #[.int .i64 7, .int .i64 8] 2)) fun e w' => ∃ o1 c1 o2 c2, e = .returned (.agg #[.slice (some o1) 1 c1, .slice o2 2 c2]) ∧ Rd w' (some o1) 1 [2] ∧ Rd w' o2 2 [7, 8] ∧ Below (V.alloc (.cells #[.int .i64 7, .int .i64 8] 2)).heap.size (V.alloc (.cells #[.int .i64 7, .int .i64 8] 2)) w' :=
  (list8_any (some ⟨V.heap.size, 0, none⟩) 2 2 [7, 8] _ (ft_new 2 V [7, 8] (by simp) (by decide)).rd (ft_new 2 V [7, 8] (by simp) (by decide)).sl (by omega)).mono fun e w' ⟨o1, c1, o2, c2, h1, h2, h3, h4⟩ => ⟨o1, c1, o2, c2, h1, h2.rd, h3.rd, h4⟩
theorem l78d (V : World) : Calls Try.prog 9 #[.slice (some ⟨V.heap.size, 0, none⟩) 2 2] (V.alloc (.cells #[.int .i64 7, .int .i64 8] 2)).drew fun e w' => ∃ o1 c1 o2 c2, e = .returned (.agg #[.slice (some o1) 1 c1, .slice o2 2 c2]) ∧ Rd w' (some o1) 1 [2] ∧ Rd w' o2 2 [7, 8] ∧ Below (V.alloc (.cells #[.int .i64 7, .int .i64 8] 2)).drew.heap.size (V.alloc (.cells #[.int .i64 7, .int .i64 8] 2)).drew w' :=
  (list8_any (some ⟨V.heap.size, 0, none⟩) 2 2 [7, 8] _ ((ft_new 2 V [7, 8] (by simp) (by decide)).below (Below.refl _ _).drew (Nat.le_refl _)).rd (ft_new 2 V [7, 8] (by simp) (by decide)).sl (by omega)).mono fun e w' ⟨o1, c1, o2, c2, h1, h2, h3, h4⟩ => ⟨o1, c1, o2, c2, h1, h2.rd, h3.rd, h4⟩
theorem l246 (V : World) : Calls Try.prog 9 #[.slice (some ⟨V.heap.size, 0, none⟩) 3 3] (V.alloc (.cells #[.int .i64 24, .int .i64 60, .int .i64 60] 2)) fun e w' => ∃ o1 c1 o2 c2, e = .returned (.agg #[.slice (some o1) 1 c1, .slice o2 3 c2]) ∧ Rd w' (some o1) 1 [3] ∧ Sl (some o1) 1 c1 ∧ Rd w' o2 3 [24, 60, 60] ∧ Sl o2 3 c2 ∧ Below V.heap.size V w' :=
  (list8_any (some ⟨V.heap.size, 0, none⟩) 3 3 [24, 60, 60] _ (ft_new 2 V [24, 60, 60] (by simp) (by decide)).rd (ft_new 2 V [24, 60, 60] (by simp) (by decide)).sl (by omega)).mono fun e w' ⟨o1, c1, o2, c2, h1, h2, h3, h4⟩ => ⟨o1, c1, o2, c2, h1, h2.rd, h2.sl, h3.rd, h3.sl, (box_below V _).trans (h4.mono (box_below V _).size)⟩
theorem l246r (V : World) : Calls Try.prog 9 #[.slice (some ⟨V.heap.size, 0, none⟩) 3 3] (V.alloc (.cells #[.int .i64 24, .int .i64 60, .int .i64 60] 2)) fun e w' => ∃ o1 c1 o2 c2, e = .returned (.agg #[.slice (some o1) 1 c1, .slice o2 3 c2]) ∧ Rd w' (some o1) 1 [3] ∧ Rd w' o2 3 [24, 60, 60] ∧ Below (V.alloc (.cells #[.int .i64 24, .int .i64 60, .int .i64 60] 2)).heap.size (V.alloc (.cells #[.int .i64 24, .int .i64 60, .int .i64 60] 2)) w' :=
  (list8_any (some ⟨V.heap.size, 0, none⟩) 3 3 [24, 60, 60] _ (ft_new 2 V [24, 60, 60] (by simp) (by decide)).rd (ft_new 2 V [24, 60, 60] (by simp) (by decide)).sl (by omega)).mono fun e w' ⟨o1, c1, o2, c2, h1, h2, h3, h4⟩ => ⟨o1, c1, o2, c2, h1, h2.rd, h3.rd, h4⟩
theorem l246d (V : World) : Calls Try.prog 9 #[.slice (some ⟨V.heap.size, 0, none⟩) 3 3] (V.alloc (.cells #[.int .i64 24, .int .i64 60, .int .i64 60] 2)).drew fun e w' => ∃ o1 c1 o2 c2, e = .returned (.agg #[.slice (some o1) 1 c1, .slice o2 3 c2]) ∧ Rd w' (some o1) 1 [3] ∧ Rd w' o2 3 [24, 60, 60] ∧ Below (V.alloc (.cells #[.int .i64 24, .int .i64 60, .int .i64 60] 2)).drew.heap.size (V.alloc (.cells #[.int .i64 24, .int .i64 60, .int .i64 60] 2)).drew w' :=
  (list8_any (some ⟨V.heap.size, 0, none⟩) 3 3 [24, 60, 60] _ ((ft_new 2 V [24, 60, 60] (by simp) (by decide)).below (Below.refl _ _).drew (Nat.le_refl _)).rd (ft_new 2 V [24, 60, 60] (by simp) (by decide)).sl (by omega)).mono fun e w' ⟨o1, c1, o2, c2, h1, h2, h3, h4⟩ => ⟨o1, c1, o2, c2, h1, h2.rd, h3.rd, h4⟩
theorem l345 (V : World) : Calls Try.prog 9 #[.slice (some ⟨V.heap.size, 0, none⟩) 3 3] (V.alloc (.cells #[.int .i64 3, .int .i64 4, .int .i64 5] 2)) fun e w' => ∃ o1 c1 o2 c2, e = .returned (.agg #[.slice (some o1) 1 c1, .slice o2 3 c2]) ∧ Rd w' (some o1) 1 [3] ∧ Sl (some o1) 1 c1 ∧ Rd w' o2 3 [3, 4, 5] ∧ Sl o2 3 c2 ∧ Below V.heap.size V w' :=
  (list8_any (some ⟨V.heap.size, 0, none⟩) 3 3 [3, 4, 5] _ (ft_new 2 V [3, 4, 5] (by simp) (by decide)).rd (ft_new 2 V [3, 4, 5] (by simp) (by decide)).sl (by omega)).mono fun e w' ⟨o1, c1, o2, c2, h1, h2, h3, h4⟩ => ⟨o1, c1, o2, c2, h1, h2.rd, h2.sl, h3.rd, h3.sl, (box_below V _).trans (h4.mono (box_below V _).size)⟩
theorem l345r (V : World) : Calls Try.prog 9 #[.slice (some ⟨V.heap.size, 0, none⟩) 3 3] (V.alloc (.cells #[.int .i64 3, .int .i64 4, .int .i64 5] 2)) fun e w' => ∃ o1 c1 o2 c2, e = .returned (.agg #[.slice (some o1) 1 c1, .slice o2 3 c2]) ∧ Rd w' (some o1) 1 [3] ∧ Rd w' o2 3 [3, 4, 5] ∧ Below (V.alloc (.cells #[.int .i64 3, .int .i64 4, .int .i64 5] 2)).heap.size (V.alloc (.cells #[.int .i64 3, .int .i64 4, .int .i64 5] 2)) w' :=
  (list8_any (some ⟨V.heap.size, 0, none⟩) 3 3 [3, 4, 5] _ (ft_new 2 V [3, 4, 5] (by simp) (by decide)).rd (ft_new 2 V [3, 4, 5] (by simp) (by decide)).sl (by omega)).mono fun e w' ⟨o1, c1, o2, c2, h1, h2, h3, h4⟩ => ⟨o1, c1, o2, c2, h1, h2.rd, h3.rd, h4⟩
theorem l345d (V : World) : Calls Try.prog 9 #[.slice (some ⟨V.heap.size, 0, none⟩) 3 3] (V.alloc (.cells #[.int .i64 3, .int .i64 4, .int .i64 5] 2)).drew fun e w' => ∃ o1 c1 o2 c2, e = .returned (.agg #[.slice (some o1) 1 c1, .slice o2 3 c2]) ∧ Rd w' (some o1) 1 [3] ∧ Rd w' o2 3 [3, 4, 5] ∧ Below (V.alloc (.cells #[.int .i64 3, .int .i64 4, .int .i64 5] 2)).drew.heap.size (V.alloc (.cells #[.int .i64 3, .int .i64 4, .int .i64 5] 2)).drew w' :=
  (list8_any (some ⟨V.heap.size, 0, none⟩) 3 3 [3, 4, 5] _ ((ft_new 2 V [3, 4, 5] (by simp) (by decide)).below (Below.refl _ _).drew (Nat.le_refl _)).rd (ft_new 2 V [3, 4, 5] (by simp) (by decide)).sl (by omega)).mono fun e w' ⟨o1, c1, o2, c2, h1, h2, h3, h4⟩ => ⟨o1, c1, o2, c2, h1, h2.rd, h3.rd, h4⟩
theorem l021 (V : World) : Calls Try.prog 9 #[.slice (some ⟨V.heap.size, 0, none⟩) 3 3] (V.alloc (.cells #[.int .i64 0, .int .i64 2, .int .i64 1] 2)) fun e w' => ∃ o1 c1 o2 c2, e = .returned (.agg #[.slice (some o1) 1 c1, .slice o2 3 c2]) ∧ Rd w' (some o1) 1 [3] ∧ Sl (some o1) 1 c1 ∧ Rd w' o2 3 [0, 2, 1] ∧ Sl o2 3 c2 ∧ Below V.heap.size V w' :=
  (list8_any (some ⟨V.heap.size, 0, none⟩) 3 3 [0, 2, 1] _ (ft_new 2 V [0, 2, 1] (by simp) (by decide)).rd (ft_new 2 V [0, 2, 1] (by simp) (by decide)).sl (by omega)).mono fun e w' ⟨o1, c1, o2, c2, h1, h2, h3, h4⟩ => ⟨o1, c1, o2, c2, h1, h2.rd, h2.sl, h3.rd, h3.sl, (box_below V _).trans (h4.mono (box_below V _).size)⟩
theorem l021r (V : World) : Calls Try.prog 9 #[.slice (some ⟨V.heap.size, 0, none⟩) 3 3] (V.alloc (.cells #[.int .i64 0, .int .i64 2, .int .i64 1] 2)) fun e w' => ∃ o1 c1 o2 c2, e = .returned (.agg #[.slice (some o1) 1 c1, .slice o2 3 c2]) ∧ Rd w' (some o1) 1 [3] ∧ Rd w' o2 3 [0, 2, 1] ∧ Below (V.alloc (.cells #[.int .i64 0, .int .i64 2, .int .i64 1] 2)).heap.size (V.alloc (.cells #[.int .i64 0, .int .i64 2, .int .i64 1] 2)) w' :=
  (list8_any (some ⟨V.heap.size, 0, none⟩) 3 3 [0, 2, 1] _ (ft_new 2 V [0, 2, 1] (by simp) (by decide)).rd (ft_new 2 V [0, 2, 1] (by simp) (by decide)).sl (by omega)).mono fun e w' ⟨o1, c1, o2, c2, h1, h2, h3, h4⟩ => ⟨o1, c1, o2, c2, h1, h2.rd, h3.rd, h4⟩
theorem l021d (V : World) : Calls Try.prog 9 #[.slice (some ⟨V.heap.size, 0, none⟩) 3 3] (V.alloc (.cells #[.int .i64 0, .int .i64 2, .int .i64 1] 2)).drew fun e w' => ∃ o1 c1 o2 c2, e = .returned (.agg #[.slice (some o1) 1 c1, .slice o2 3 c2]) ∧ Rd w' (some o1) 1 [3] ∧ Rd w' o2 3 [0, 2, 1] ∧ Below (V.alloc (.cells #[.int .i64 0, .int .i64 2, .int .i64 1] 2)).drew.heap.size (V.alloc (.cells #[.int .i64 0, .int .i64 2, .int .i64 1] 2)).drew w' :=
  (list8_any (some ⟨V.heap.size, 0, none⟩) 3 3 [0, 2, 1] _ ((ft_new 2 V [0, 2, 1] (by simp) (by decide)).below (Below.refl _ _).drew (Nat.le_refl _)).rd (ft_new 2 V [0, 2, 1] (by simp) (by decide)).sl (by omega)).mono fun e w' ⟨o1, c1, o2, c2, h1, h2, h3, h4⟩ => ⟨o1, c1, o2, c2, h1, h2.rd, h3.rd, h4⟩
theorem l88 (V : World) : Calls Try.prog 9 #[.slice (some ⟨V.heap.size, 0, none⟩) 2 2] (V.alloc (.cells #[.int .i64 8, .int .i64 8] 2)) fun e w' => ∃ o1 c1 o2 c2, e = .returned (.agg #[.slice (some o1) 1 c1, .slice o2 2 c2]) ∧ Rd w' (some o1) 1 [2] ∧ Sl (some o1) 1 c1 ∧ Rd w' o2 2 [8, 8] ∧ Sl o2 2 c2 ∧ Below V.heap.size V w' :=
  (list8_any (some ⟨V.heap.size, 0, none⟩) 2 2 [8, 8] _ (ft_new 2 V [8, 8] (by simp) (by decide)).rd (ft_new 2 V [8, 8] (by simp) (by decide)).sl (by omega)).mono fun e w' ⟨o1, c1, o2, c2, h1, h2, h3, h4⟩ => ⟨o1, c1, o2, c2, h1, h2.rd, h2.sl, h3.rd, h3.sl, (box_below V _).trans (h4.mono (box_below V _).size)⟩
theorem l88r (V : World) : Calls Try.prog 9 #[.slice (some ⟨V.heap.size, 0, none⟩) 2 2] (V.alloc (.cells #[.int .i64 8, .int .i64 8] 2)) fun e w' => ∃ o1 c1 o2 c2, e = .returned (.agg #[.slice (some o1) 1 c1, .slice o2 2 c2]) ∧ Rd w' (some o1) 1 [2] ∧ Rd w' o2 2 [8, 8] ∧ Below (V.alloc (.cells #[.int .i64 8, .int .i64 8] 2)).heap.size (V.alloc (.cells #[.int .i64 8, .int .i64 8] 2)) w' :=
  (list8_any (some ⟨V.heap.size, 0, none⟩) 2 2 [8, 8] _ (ft_new 2 V [8, 8] (by simp) (by decide)).rd (ft_new 2 V [8, 8] (by simp) (by decide)).sl (by omega)).mono fun e w' ⟨o1, c1, o2, c2, h1, h2, h3, h4⟩ => ⟨o1, c1, o2, c2, h1, h2.rd, h3.rd, h4⟩
theorem l88d (V : World) : Calls Try.prog 9 #[.slice (some ⟨V.heap.size, 0, none⟩) 2 2] (V.alloc (.cells #[.int .i64 8, .int .i64 8] 2)).drew fun e w' => ∃ o1 c1 o2 c2, e = .returned (.agg #[.slice (some o1) 1 c1, .slice o2 2 c2]) ∧ Rd w' (some o1) 1 [2] ∧ Rd w' o2 2 [8, 8] ∧ Below (V.alloc (.cells #[.int .i64 8, .int .i64 8] 2)).drew.heap.size (V.alloc (.cells #[.int .i64 8, .int .i64 8] 2)).drew w' :=
  (list8_any (some ⟨V.heap.size, 0, none⟩) 2 2 [8, 8] _ ((ft_new 2 V [8, 8] (by simp) (by decide)).below (Below.refl _ _).drew (Nat.le_refl _)).rd (ft_new 2 V [8, 8] (by simp) (by decide)).sl (by omega)).mono fun e w' ⟨o1, c1, o2, c2, h1, h2, h3, h4⟩ => ⟨o1, c1, o2, c2, h1, h2.rd, h3.rd, h4⟩
theorem l123 (V : World) : Calls Try.prog 9 #[.slice (some ⟨V.heap.size, 0, none⟩) 3 3] (V.alloc (.cells #[.int .i64 1, .int .i64 2, .int .i64 3] 2)) fun e w' => ∃ o1 c1 o2 c2, e = .returned (.agg #[.slice (some o1) 1 c1, .slice o2 3 c2]) ∧ Rd w' (some o1) 1 [3] ∧ Sl (some o1) 1 c1 ∧ Rd w' o2 3 [1, 2, 3] ∧ Sl o2 3 c2 ∧ Below V.heap.size V w' :=
  (list8_any (some ⟨V.heap.size, 0, none⟩) 3 3 [1, 2, 3] _ (ft_new 2 V [1, 2, 3] (by simp) (by decide)).rd (ft_new 2 V [1, 2, 3] (by simp) (by decide)).sl (by omega)).mono fun e w' ⟨o1, c1, o2, c2, h1, h2, h3, h4⟩ => ⟨o1, c1, o2, c2, h1, h2.rd, h2.sl, h3.rd, h3.sl, (box_below V _).trans (h4.mono (box_below V _).size)⟩
theorem l123r (V : World) : Calls Try.prog 9 #[.slice (some ⟨V.heap.size, 0, none⟩) 3 3] (V.alloc (.cells #[.int .i64 1, .int .i64 2, .int .i64 3] 2)) fun e w' => ∃ o1 c1 o2 c2, e = .returned (.agg #[.slice (some o1) 1 c1, .slice o2 3 c2]) ∧ Rd w' (some o1) 1 [3] ∧ Rd w' o2 3 [1, 2, 3] ∧ Below (V.alloc (.cells #[.int .i64 1, .int .i64 2, .int .i64 3] 2)).heap.size (V.alloc (.cells #[.int .i64 1, .int .i64 2, .int .i64 3] 2)) w' :=
  (list8_any (some ⟨V.heap.size, 0, none⟩) 3 3 [1, 2, 3] _ (ft_new 2 V [1, 2, 3] (by simp) (by decide)).rd (ft_new 2 V [1, 2, 3] (by simp) (by decide)).sl (by omega)).mono fun e w' ⟨o1, c1, o2, c2, h1, h2, h3, h4⟩ => ⟨o1, c1, o2, c2, h1, h2.rd, h3.rd, h4⟩
theorem l123d (V : World) : Calls Try.prog 9 #[.slice (some ⟨V.heap.size, 0, none⟩) 3 3] (V.alloc (.cells #[.int .i64 1, .int .i64 2, .int .i64 3] 2)).drew fun e w' => ∃ o1 c1 o2 c2, e = .returned (.agg #[.slice (some o1) 1 c1, .slice o2 3 c2]) ∧ Rd w' (some o1) 1 [3] ∧ Rd w' o2 3 [1, 2, 3] ∧ Below (V.alloc (.cells #[.int .i64 1, .int .i64 2, .int .i64 3] 2)).drew.heap.size (V.alloc (.cells #[.int .i64 1, .int .i64 2, .int .i64 3] 2)).drew w' :=
  (list8_any (some ⟨V.heap.size, 0, none⟩) 3 3 [1, 2, 3] _ ((ft_new 2 V [1, 2, 3] (by simp) (by decide)).below (Below.refl _ _).drew (Nat.le_refl _)).rd (ft_new 2 V [1, 2, 3] (by simp) (by decide)).sl (by omega)).mono fun e w' ⟨o1, c1, o2, c2, h1, h2, h3, h4⟩ => ⟨o1, c1, o2, c2, h1, h2.rd, h3.rd, h4⟩
theorem l112 (V : World) : Calls Try.prog 9 #[.slice (some ⟨V.heap.size, 0, none⟩) 3 3] (V.alloc (.cells #[.int .i64 1, .int .i64 1, .int .i64 2] 2)) fun e w' => ∃ o1 c1 o2 c2, e = .returned (.agg #[.slice (some o1) 1 c1, .slice o2 3 c2]) ∧ Rd w' (some o1) 1 [3] ∧ Sl (some o1) 1 c1 ∧ Rd w' o2 3 [1, 1, 2] ∧ Sl o2 3 c2 ∧ Below V.heap.size V w' :=
  (list8_any (some ⟨V.heap.size, 0, none⟩) 3 3 [1, 1, 2] _ (ft_new 2 V [1, 1, 2] (by simp) (by decide)).rd (ft_new 2 V [1, 1, 2] (by simp) (by decide)).sl (by omega)).mono fun e w' ⟨o1, c1, o2, c2, h1, h2, h3, h4⟩ => ⟨o1, c1, o2, c2, h1, h2.rd, h2.sl, h3.rd, h3.sl, (box_below V _).trans (h4.mono (box_below V _).size)⟩
theorem l112r (V : World) : Calls Try.prog 9 #[.slice (some ⟨V.heap.size, 0, none⟩) 3 3] (V.alloc (.cells #[.int .i64 1, .int .i64 1, .int .i64 2] 2)) fun e w' => ∃ o1 c1 o2 c2, e = .returned (.agg #[.slice (some o1) 1 c1, .slice o2 3 c2]) ∧ Rd w' (some o1) 1 [3] ∧ Rd w' o2 3 [1, 1, 2] ∧ Below (V.alloc (.cells #[.int .i64 1, .int .i64 1, .int .i64 2] 2)).heap.size (V.alloc (.cells #[.int .i64 1, .int .i64 1, .int .i64 2] 2)) w' :=
  (list8_any (some ⟨V.heap.size, 0, none⟩) 3 3 [1, 1, 2] _ (ft_new 2 V [1, 1, 2] (by simp) (by decide)).rd (ft_new 2 V [1, 1, 2] (by simp) (by decide)).sl (by omega)).mono fun e w' ⟨o1, c1, o2, c2, h1, h2, h3, h4⟩ => ⟨o1, c1, o2, c2, h1, h2.rd, h3.rd, h4⟩
theorem l112d (V : World) : Calls Try.prog 9 #[.slice (some ⟨V.heap.size, 0, none⟩) 3 3] (V.alloc (.cells #[.int .i64 1, .int .i64 1, .int .i64 2] 2)).drew fun e w' => ∃ o1 c1 o2 c2, e = .returned (.agg #[.slice (some o1) 1 c1, .slice o2 3 c2]) ∧ Rd w' (some o1) 1 [3] ∧ Rd w' o2 3 [1, 1, 2] ∧ Below (V.alloc (.cells #[.int .i64 1, .int .i64 1, .int .i64 2] 2)).drew.heap.size (V.alloc (.cells #[.int .i64 1, .int .i64 1, .int .i64 2] 2)).drew w' :=
  (list8_any (some ⟨V.heap.size, 0, none⟩) 3 3 [1, 1, 2] _ ((ft_new 2 V [1, 1, 2] (by simp) (by decide)).below (Below.refl _ _).drew (Nat.le_refl _)).rd (ft_new 2 V [1, 1, 2] (by simp) (by decide)).sl (by omega)).mono fun e w' ⟨o1, c1, o2, c2, h1, h2, h3, h4⟩ => ⟨o1, c1, o2, c2, h1, h2.rd, h3.rd, h4⟩

/-- An array that lies in a box. -/
structure Bq (V : World) (b : Nat) (o1 : Option Addr) (n1 c1 : Nat) (o2 : Option Addr) (n2 c2 : Nat) (S A : List Int) : Prop where
  box : V.heap[b]? = some (.cells #[.slice o1 n1 c1, .slice o2 n2 c2] 26 (0, 0))
  s : Rd V o1 n1 S
  a : Rd V o2 n2 A
theorem Bq.below {V V' : World} {b : Nat} {o1 : Option Addr} {n1 c1 : Nat} {o2 : Option Addr} {n2 c2 : Nat} {S A : List Int} (h : Bq V b o1 n1 c1 o2 n2 c2 S A) (k : Below V.heap.size V V') : Bq V' b o1 n1 c1 o2 n2 c2 S A :=
  ⟨(k.block _ (Array.getElem?_eq_some_iff.1 h.box).1).trans h.box, h.s.below k (Nat.le_refl _), h.a.below k (Nat.le_refl _)⟩
theorem bq_new {V : World} {o1 : Option Addr} {n1 c1 : Nat} {o2 : Option Addr} {n2 c2 : Nat} {S A : List Int} (h1 : Rd V o1 n1 S) (h2 : Rd V o2 n2 A) : Bq (V.alloc (.cells #[.slice o1 n1 c1, .slice o2 n2 c2] 26)) V.heap.size o1 n1 c1 o2 n2 c2 S A :=
  ⟨allocNew V _, h1.below (box_below V _) (Nat.le_refl _), h2.below (box_below V _) (Nat.le_refl _)⟩
theorem Bq.c {V : World} {b : Nat} {o1 : Option Addr} {n1 c1 : Nat} {o2 : Option Addr} {n2 c2 : Nat} {S A : List Int} (h : Bq V b o1 n1 c1 o2 n2 c2 S A) : V.cell? ⟨b, 0, none⟩ = some (.slice o1 n1 c1) ∧ V.cell? ⟨b, 1, none⟩ = some (.slice o2 n2 c2) := ⟨(box2 h.box).1, (box2 h.box).2.1⟩
end Go.Proofs.Ytjnlkdeiccllgaa
