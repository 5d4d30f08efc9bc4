
/- Contract: what every statement of layer 6 asks ahead, call by call. -/

import Derived.Test.YtldhochafkcpiaaGreatMX

namespace Go.Proofs.YtldhochafkcpiaaGreat

open Go.RowKit

set_option linter.unusedVariables false

/-- A list that lies in a box. -/
def Hold (V : World) (b j : Nat) (o : Option Addr) (n c : Nat) (zs : List Int) : Prop := V.cell? ⟨b, j, none⟩ = some (.slice o n c) ∧ Rd V o n zs
theorem Hold.below {V V' : World} {b j : Nat} {o : Option Addr} {n c : Nat} {zs : List Int} (h : Hold V b j o n c zs) (k : Below V.heap.size V V') : Hold V' b j o n c zs :=
  ⟨(k.cell (p := ⟨b, j, none⟩) (World.block_lt_of_cell? V _ h.1)).trans h.1, h.2.below k (Nat.le_refl _)⟩
theorem hold_box {V : World} {o1 o2 : Option Addr} {n1 c1 n2 c2 : Nat} {S A : List Int} (h1 : Rd V o1 n1 S) (h2 : Rd V o2 n2 A) : Hold (V.alloc (.cells #[.slice o1 n1 c1, .slice o2 n2 c2] 25)) V.heap.size 0 o1 n1 c1 S ∧ Hold (V.alloc (.cells #[.slice o1 n1 c1, .slice o2 n2 c2] 25)) V.heap.size 1 o2 n2 c2 A := by
  obtain ⟨x0, x1, _, _⟩ := box2 (allocNew V (.cells #[.slice o1 n1 c1, .slice o2 n2 c2] 25))
  exact ⟨⟨x0, h1.below (box_below V _) (Nat.le_refl _)⟩, ⟨x1, h2.below (box_below V _) (Nat.le_refl _)⟩⟩
theorem table6_any (w : World) : Calls Tryz.prog 11 #[] w fun e w' => ∃ o1 o2, e = .returned (.agg #[.slice (some o1) 2 2, .slice (some o2) 6 6]) ∧ Ft 3 w' w.heap.size (some o1) 2 2 [2, 3] ∧ Ft 2 w' w.heap.size (some o2) 6 6 [1, 2, 3, 4, 5, 6] ∧ Below w.heap.size w w' := by
  go_enter Tryz.func11, Tryz.ntmps11
  go_wp2
  go_returns
  have f1 := ft_new 3 (w.alloc (.cells #[.slice (some ⟨w.heap.size + 1, 0, none⟩) 2 2, .slice (some ⟨w.heap.size + 1 + 1, 0, none⟩) 6 6] 25)) [2, 3] (by simp) (by decide)
  have f2 := ft_new 2 ((w.alloc (.cells #[.slice (some ⟨w.heap.size + 1, 0, none⟩) 2 2, .slice (some ⟨w.heap.size + 1 + 1, 0, none⟩) 6 6] 25)).alloc (.cells #[.int .i64 2, .int .i64 3] 3)) [1, 2, 3, 4, 5, 6] (by simp) (by decide)
  have f1' := f1.below (box_below _ (.cells #[.int .i64 1, .int .i64 2, .int .i64 3, .int .i64 4, .int .i64 5, .int .i64 6] 2)) (Nat.le_refl _)
  simp only [World.size_alloc] at f1' f2
  exact ⟨_, _, rfl, f1'.mono (by omega), f2.mono (by omega), three_below w _ _ _⟩
theorem scalar6_any (n : Int) (w : World) (h1 : -9223372036854775808 ≤ n) (h2 : n ≤ 9223372036854775807) : Calls Tryz.prog 12 #[.int .i64 n] w fun e w' => ∃ o2, e = .returned (.agg #[.slice none 0 0, .slice (some o2) 1 1]) ∧ Ft 2 w' w.heap.size (some o2) 1 1 [n] ∧ Below w.heap.size w w' := by
  go_enter Tryz.func12, Tryz.ntmps12
  go_wp2
  go_returns
  have f2 := ft_new 2 (w.alloc (.cells #[.slice none 0 0, .slice (some ⟨w.heap.size + 1, 0, none⟩) 1 1] 25)) [n] (by simp) (num1 h1 h2)
  simp only [World.size_alloc] at f2
  exact ⟨_, rfl, f2.mono (by omega), (box_below w _).trans ((box_below _ _).mono (by simp))⟩
set_option maxHeartbeats 1000000 in
theorem list6_any (ao : Option Addr) (n c : Nat) (zs : List Int) (w : World) (h : Rd w ao n zs) (hs : Sl ao n c) (hn : n ≤ 4096) : Calls Tryz.prog 6 #[.slice ao n c] w fun e w' => ∃ o1 o2 c2, e = .returned (.agg #[.slice (some o1) 1 1, .slice o2 n c2]) ∧ Ft 3 w' w.heap.size (some o1) 1 1 [(n : Int)] ∧ Ft 2 w' w.heap.size o2 n c2 zs ∧ Below w.heap.size w w' := by
  have b0 := allocNew w (.cells #[.slice none 0 0, .slice none 0 0] 25)
  have k0 := box_below w (.cells #[.slice none 0 0, .slice none 0 0] 25)
  have f1 := ft_new 3 (w.alloc (.cells #[.slice none 0 0, .slice none 0 0] 25)) [(n : Int)] (by simp) (num1 (by omega) (by omega))
  have k1 := box_below (w.alloc (.cells #[.slice none 0 0, .slice none 0 0] 25)) (.cells #[.int .i64 (n : Nat)] 3)
  rw [World.size_alloc] at f1
  have hr := h.room
  go_enter Tryz.func6, Tryz.ntmps6
  go_wp2_with (at_builtin; refine wpList_joinT tyL rfl _ _ rfl (w.heap.size + 2) none ao 0 0 n c [] zs rfl rfl (Ft.nil _ _ _) ((h.below k0 (Nat.le_refl _)).below k1 (Nat.le_refl _)) hs (by omega) (by simp) ?_; intro co c2 w1 hf hb1; rw [Nat.zero_add, List.nil_append] at hf; have r1 := (hb1.block w.heap.size (by omega)).trans ((k1.block w.heap.size (by simp)).trans b0); obtain ⟨y0, y1, z0, z1⟩ := box2 r1)
  (try simp only [Exit.inBlock, Exit.then])
  refine bodyPost_ret (v := .agg #[.slice (some ⟨w.heap.size + 1, 0, none⟩) 1 1, .slice co n c2]) (by simp [results, Tryz.results6]; go_simp) rfl ?_
  have f1' := f1.below hb1 (by simp)
  refine ⟨_, _, _, rfl, (ft_set (w := w) f1' (by omega) _ _).mono (by omega), (ft_set (w := w) hf (by omega) _ _).mono (by omega), below_set2 _ _ _ _ ((k0.trans (k1.mono (by simp))).trans (hb1.mono (by omega))) (Nat.le_refl _) (Nat.le_refl _)⟩

theorem c6_tran (w : World) (so ao : Option Addr) (sc ac : Nat) (hs : Rd w so 2 [2, 3]) (ha : Rd w ao 6 [1, 2, 3, 4, 5, 6]) : Calls Tryz.prog 10 #[.int .i64 33, .agg #[.slice so 2 sc, .slice ao 6 ac]] w fun e w' => Ans w w.heap.size [3, 2] [1, 4, 2, 5, 3, 6] 0 e w' :=
  monad_tran so ao 2 sc 6 ac [2, 3] [1, 2, 3, 4, 5, 6] [3, 2] [1, 4, 2, 5, 3, 6] 0 w hs ha (by decide) (fun V k => by
    have := transpose_any so ao 2 sc 6 ac [2, 3] [1, 2, 3, 4, 5, 6] V (hs.below k (Nat.le_refl _)) (ha.below k (Nat.le_refl _)) (by decide) (fun _ => by
      rw [show pls (axsOf [2, 3]).reverse = [0, 3, 1, 4, 2, 5] by decide]
      decide)
    rw [show lens (axsOf [2, 3]).reverse = [3, 2] by decide, show mayF [3, 2] = 0 by decide, show filS [3, 2] = [3, 2] by decide, show gthS [1, 2, 3, 4, 5, 6] (axsOf [2, 3]).reverse = [1, 4, 2, 5, 3, 6] by decide] at this
    exact this)
theorem c6_ravel (w : World) (so ao bo : Option Addr) (sc ac bc : Nat) (hs : Rd w so 2 [2, 3]) (ss : Sl so 2 sc) (ha : Rd w ao 6 [1, 2, 3, 4, 5, 6]) (hb : Rd w bo 1 [9]) : Calls Tryz.prog 5 #[.int .i64 24, .agg #[.slice so 2 sc, .slice ao 6 ac], .agg #[.slice none 0 0, .slice bo 1 bc]] w fun e w' => Ans w w.heap.size [3, 3] [1, 2, 3, 4, 5, 6, 9, 9, 9] 0 e w' :=
  dyad_ravel so ao none bo 2 sc 6 ac 0 0 1 bc [2, 3] [1, 2, 3, 4, 5, 6] [] [9] [3, 3] [1, 2, 3, 4, 5, 6, 9, 9, 9] 0 w hs ha (Rd.nil w) hb (by decide) (by decide) (fun V k => by
    have := join_sc so ao none bo 2 sc 6 ac 0 1 bc [2, 3] [1, 2, 3, 4, 5, 6] [9] V (hs.below k (Nat.le_refl _)) ss (ha.below k (Nat.le_refl _)) (Rd.nil V) ⟨fun _ => ⟨rfl, rfl⟩, by omega, by omega⟩ (hb.below k (Nat.le_refl _)) (by decide) (by omega) (by omega)
    rw [show ((nth [2, 3] 0 + nth (1 :: [2, 3].drop 1) 0) :: [2, 3].drop 1 : List Int) = [3, 3] by decide, show mayF [3, 3] = 0 by decide, show filS [3, 3] = [3, 3] by decide, show jnA [3, 3] ([1, 2, 3, 4, 5, 6] ++ List.replicate (pr ([2, 3].drop 1)).toNat (nth [9] 0)) = [1, 2, 3, 4, 5, 6, 9, 9, 9] by decide] at this
    exact this)
theorem c6_take (w : World) (xso xo so ao : Option Addr) (xsc xc sc ac : Nat) (hxs : Rd w xso 1 [2]) (hx : Rd w xo 2 [3, -2]) (hs : Rd w so 2 [2, 3]) (ha : Rd w ao 6 [1, 2, 3, 4, 5, 6]) : Calls Tryz.prog 5 #[.int .i64 28, .agg #[.slice xso 1 xsc, .slice xo 2 xc], .agg #[.slice so 2 sc, .slice ao 6 ac]] w fun e w' => Ans w w.heap.size [3, 2] [2, 3, 5, 6, 0, 0] 0 e w' :=
  dyad_take xso xo so ao 1 xsc 2 xc 2 sc 6 ac [2] [3, -2] [2, 3] [1, 2, 3, 4, 5, 6] [3, 2] [2, 3, 5, 6, 0, 0] 0 w hxs hx hs ha (by decide) (by decide) (by omega) (fun V k => take_call xso xo so ao 1 xsc 2 xc 2 sc 6 ac [3, 2] [2, 3, 5, 6, 0, 0] 0 V (fun V2 k2 => by
    have kk := k.trans (k2.mono k.size)
    have := cut_take xso xo so ao 1 xsc 2 xc 2 sc 6 ac [3, -2] [2, 3] [1, 2, 3, 4, 5, 6] V2 (hx.below kk (Nat.le_refl _)) (hs.below kk (Nat.le_refl _)) (ha.below kk (Nat.le_refl _)) (by decide) (by omega) (by omega) (by decide) (fun _ => by
      rw [show pls (chL taA (axsOf [2, 3]) [3, -2]) = [1, 2, 4, 5, -1, -1] by decide]
      decide)
    rw [show lens (chL taA (axsOf [2, 3]) [3, -2]) = [3, 2] by decide, show mayF [3, 2] = 0 by decide, show filS [3, 2] = [3, 2] by decide, show gthS [1, 2, 3, 4, 5, 6] (chL taA (axsOf [2, 3]) [3, -2]) = [2, 3, 5, 6, 0, 0] by decide] at this
    exact this))
theorem c6_shape (w : World) (xo ao : Option Addr) (xc ac : Nat) (hx : Rd w xo 1 [2]) (ha : Rd w ao 1 [7]) : Calls Tryz.prog 5 #[.int .i64 23, .agg #[.slice none 0 0, .slice xo 1 xc], .agg #[.slice none 0 0, .slice ao 1 ac]] w fun e w' => Ans w w.heap.size [2] [7, 7] 0 e w' :=
  dyad_shape none xo none ao 0 0 1 xc 0 0 1 ac [] [2] [] [7] [2] [7, 7] 0 w (Rd.nil w) hx (Rd.nil w) ha (by decide) (by decide) (by omega) (fun V k => by
    have := reshape_any none xo none ao 0 0 1 xc 0 0 1 ac [2] [] [7] V (hx.below k (Nat.le_refl _)) (Rd.nil V) ⟨fun _ => ⟨rfl, rfl⟩, by omega, by omega⟩ (ha.below k (Nat.le_refl _)) (by decide) (by decide) (by omega) (by decide) (by omega) (by decide)
    rw [show ([2] ++ List.drop 1 [] : List Int) = [2] by decide, show rsL (pr [2]).toNat 1 [7] (pr [2]).toNat = [7, 7] by decide] at this
    exact this)
theorem c6_tail (w : World) (so ao to bo : Option Addr) (sc ac tc bc : Nat) (hs : Rd w so 2 [2, 3]) (ha : Rd w ao 6 [1, 2, 3, 4, 5, 6]) (ht : Rd w to 2 [2, 3]) (hb : Rd w bo 6 [1, 2, 3, 4, 5, 6]) : Calls Tryz.prog 5 #[.int .i64 30, .agg #[.slice so 2 sc, .slice ao 6 ac], .agg #[.slice to 2 tc, .slice bo 6 bc]] w fun e w' => e = .returned (.tuple #[.agg #[.slice none 0 0, .slice none 0 0], .int .i64 16]) ∧ Below w.heap.size w w' :=
  dyad_tail so ao to bo 2 sc 6 ac 2 tc 6 bc [2, 3] [1, 2, 3, 4, 5, 6] [2, 3] [1, 2, 3, 4, 5, 6] w hs ha ht hb (by decide) (by decide)
end Go.Proofs.YtldhochafkcpiaaGreat
