
/- Contracts of package mold: axes in the contrary order. -/

import Derived.Test.YtpfdiammgdnhmaaGreatMJ

namespace Go.Proofs.YtpfdiammgdnhmaaGreat

open Go.RowKit

set_option linter.unusedVariables false

/-- The first k and the last k have changed places. -/
def rvK (axs : List Ax) (k : Nat) : List Ax := (List.range axs.length).map fun t => if t < k ∨ axs.length - k ≤ t then nax axs (axs.length - 1 - t) else nax axs t
theorem rvK_len (axs : List Ax) (k : Nat) : (rvK axs k).length = axs.length := by simp [rvK]
theorem rvK_nax {axs : List Ax} {k t : Nat} (h : t < axs.length) : nax (rvK axs k) t = if t < k ∨ axs.length - k ≤ t then nax axs (axs.length - 1 - t) else nax axs t := by
  unfold nax rvK
  rw [List.getD_eq_getElem?_getD, List.getElem?_map, List.getElem?_range h]
  rfl
theorem ext_nax {a b : List Ax} (hl : a.length = b.length) (h : ∀ k, k < a.length → nax a k = nax b k) : a = b := by
  apply List.ext_getElem hl
  intro i h1 h2
  have := h i h1
  rwa [nax_lt h1, nax_lt h2] at this
theorem rvK_zero (axs : List Ax) : rvK axs 0 = axs := ext_nax (rvK_len _ _) (fun k hk => by
  rw [rvK_len] at hk
  rw [rvK_nax hk, if_neg (by omega)])
theorem nax_rev {axs : List Ax} {t : Nat} (h : t < axs.length) : nax axs.reverse t = nax axs (axs.length - 1 - t) := by
  rw [nax_lt (by simpa using h), nax_lt (show axs.length - 1 - t < axs.length by omega), List.getElem_reverse]
theorem rvK_all {axs : List Ax} {k : Nat} (h : axs.length ≤ k + 1 + k) : rvK axs k = axs.reverse := ext_nax (by rw [rvK_len]; simp) (fun t ht => by
  rw [rvK_len] at ht
  rw [rvK_nax ht, nax_rev ht]
  split
  · rfl
  · congr 1
    omega)
theorem nax_set {l : List Ax} {j t : Nat} {a : Ax} (hj : j < l.length) : nax (l.set j a) t = if t = j then a else nax l t := by
  unfold nax
  by_cases h : t = j
  · subst h; simp [hj]
  · rw [if_neg h, List.getD_eq_getElem?_getD, List.getD_eq_getElem?_getD, List.getElem?_set_ne (fun e => h e.symm)]
theorem rvK_step {axs : List Ax} {k j : Nat} (h : k < j) (hj : j + k + 1 = axs.length) : ((rvK axs k).set k (nax axs j)).set j (nax axs k) = rvK axs (k + 1) := ext_nax (by simp [rvK_len]) (fun t ht => by
  simp only [List.length_set, rvK_len] at ht
  rw [nax_set (by simp [rvK_len]; omega), nax_set (by rw [rvK_len]; omega), rvK_nax ht, rvK_nax ht]
  by_cases c1 : t = j
  · rw [if_pos c1, if_pos (by omega), c1]; congr 1; omega
  · rw [if_neg c1]
    by_cases c2 : t = k
    · rw [if_pos c2, if_pos (by omega), c2]; congr 1; omega
    · rw [if_neg c2]
      by_cases c3 : t < k ∨ axs.length - k ≤ t
      · rw [if_pos c3, if_pos (by omega)]
      · rw [if_neg c3, if_neg (by omega)])
theorem rvK_mid {axs : List Ax} {k t : Nat} (h : k ≤ t) (h2 : t + k < axs.length) : nax (rvK axs k) t = nax axs t := by
  rw [rvK_nax (by omega), if_neg (by omega)]

set_option maxHeartbeats 4000000 in
set_option maxRecDepth 20000 in
theorem reverseX_any (g n gc : Nat) (axs : List Ax) (w : World) (hax : Axs w g n axs) (hn : n ≤ 5000) :
    Calls Tryz.prog 62 #[.slice (some ⟨g, 0, none⟩) n gc] w fun e w' => (∃ v, e = .returned v) ∧ Axs w' g n axs.reverse ∧ ∀ B, B ≤ g → Below B w w' := by
  have HAL : Hid (axs.length = n) := hax.len
  have w0 := wr (z := (n : Int) - 1) (by omega) (by omega)
  go_enter Tryz.func62, Tryz.ntmps62
  go_wp2
  go_loopw [2, 3] (fun i j V => ∃ k : Nat, k ≤ n ∧ i = .int .i64 (k : Nat) ∧ j = .int .i64 ((n : Int) - 1 - (k : Int)) ∧ Axs V g n (rvK axs k) ∧ (2 * k ≤ n + 1) ∧ ∀ B, B ≤ g → Below B w V) (fun i _ _ => n - (intOf i).toNat)
  case atStart => exact ⟨0, Nat.zero_le _, rfl, by simp, by rw [rvK_zero]; exact hax, by omega, fun B _ => Below.refl _ _⟩
  case round =>
    obtain ⟨k, hk, rfl, rfl, A, h2k, hB⟩ := hrel
    by_cases hlt : 2 * k + 1 < n
    · obtain ⟨j, hj⟩ : ∃ j : Nat, j + k + 1 = n := ⟨n - 1 - k, by omega⟩
      have ej : (n : Int) - 1 - (k : Int) = (j : Int) := by omega
      obtain ⟨K1, cs1, bs1, x0, x1, x2, x3, way1, out1, wd1, st1⟩ := A.at2 (k := k) (by omega)
      obtain ⟨K2, cs2, bs2, y0, y1, y2, y3, way2, out2, wd2, st2⟩ := A.at2 (k := j) (by omega)
      rw [rvK_mid (by omega) (by rw [HAL.out]; omega)] at x0 x1 x2 way1 wd1 st1
      rw [rvK_mid (by omega) (by rw [HAL.out]; omega)] at y0 y1 y2 way2 wd2 st2
      obtain ⟨s0, s1, s2, s3, _, _, _, _, f0, f1, f2, f3⟩ := A.slots (k := k) (by omega)
      have P1 := A.put (k := k) (by omega) (a := nax axs j) (bs := bs2) ⟨way2, out2, wd2, st2⟩
      obtain ⟨q0, q1, q2, q3, p0, p1, p2, p3, e0, e1, e2, e3⟩ := P1.slots (k := j) (by omega)
      have keep : ∀ b, b < wr.heap.size → b ≠ g → (put4 wr g k (.int .i64 ((nax axs j).len : Nat)) (.int .i64 ((nax axs j).wid : Nat)) (.int .i64 ((nax axs j).stp : Nat)) (.func (.func K2) #[] cs2)).heap[b]? = wr.heap[b]? := fun b hb hne => (put4_grown wr g k _ _ _ _).block b hb (some_ne hne)
      have P2 := P1.put (k := j) (by omega) (a := nax axs k) (bs := bs1) ⟨way1.keep (fun b m => by obtain ⟨⟨v, hv⟩, hne⟩ := out1 b m; exact keep b (World.block_lt_of_cell? wr _ hv) hne), fun b m => by obtain ⟨⟨v, hv⟩, hne⟩ := out1 b m; exact ⟨⟨v, (cell_same (keep b (World.block_lt_of_cell? wr _ hv) hne) 0).trans hv⟩, hne⟩, wd1, st1⟩
      rw [rvK_step (by omega) (by rw [HAL.out]; exact hj)] at P2
      rw [ej]
      have t0 : decide ((k : Int) < (j : Int)) = true := by simp; omega
      have wk : IntKind.i64.wrap ((k : Int) + 1) = (k : Int) + 1 := wrapIn _ (by omega)
      have wj : IntKind.i64.wrap ((j : Int) - 1) = (j : Int) - 1 := wrapIn _ (by omega)
      have bk : (k : Int) < (n : Int) := by omega
      have bj : (j : Int) < (n : Int) := by omega
      have HB : Hid (∀ B, B ≤ g → Below B w wr) := hB
      clear hB way1 way2 out1 out2 keep P1
      unfold put4 at p0 p1 p2 p3 e0 e1 e2 e3
      go_wp2
      go_region
      all_goals
        go_wp2
        go_roundw
        case rel =>
          have P3 := P2.below (Below.refl _ _).drew
          exact ⟨k + 1, by omega, by go_num, by rw [show (n : Int) - 1 - ((k + 1 : Nat) : Int) = (j : Int) - 1 by omega], P3, by omega, fun B hg => (below_set4 _ _ _ _ _ _ _ _ (below_set4 _ _ _ _ _ _ _ _ (HB.out B hg) hg) hg).drew⟩
        case measure => simp [intOf]; omega
    · have hlt' : n ≤ k + 1 + k := by omega
      have t0 : decide ((k : Int) < (n : Int) - 1 - (k : Int)) = false := by simp; omega
      rw [rvK_all (by rw [HAL.out]; exact hlt')] at A
      go_wp2
      go_end0
      exact ⟨⟨_, rfl⟩, A, hB⟩

/-- One array in its box, and a box for the answer. -/
structure Un (w W : World) (so : Option Addr) (sn sc : Nat) (ao : Option Addr) (an ac : Nat) : Prop where
  c0 : W.cell? ⟨w.heap.size, 0, none⟩ = some (.slice so sn sc)
  c1 : W.cell? ⟨w.heap.size, 1, none⟩ = some (.slice ao an ac)
  r : ∃ x y, W.heap[w.heap.size + 1]? = some (.cells #[x, y] 25 (0, 0))
  bel : Below w.heap.size w W
theorem Un.sz {w W : World} {so : Option Addr} {sn sc : Nat} {ao : Option Addr} {an ac : Nat} (h : Un w W so sn sc ao an ac) : w.heap.size + 2 ≤ W.heap.size := by
  obtain ⟨x, y, hr⟩ := h.r
  have := (Array.getElem?_eq_some_iff.1 hr).1
  omega
theorem Un.below {w W W' : World} {so : Option Addr} {sn sc : Nat} {ao : Option Addr} {an ac B : Nat} (h : Un w W so sn sc ao an ac) (k : Below B W W') (hB : w.heap.size + 2 ≤ B) : Un w W' so sn sc ao an ac := by
  obtain ⟨x, y, hr⟩ := h.r
  exact ⟨(k.cell (p := ⟨w.heap.size, 0, none⟩) (show w.heap.size < B by omega)).trans h.c0, (k.cell (p := ⟨w.heap.size, 1, none⟩) (show w.heap.size < B by omega)).trans h.c1, ⟨x, y, (k.block _ (by omega)).trans hr⟩, h.bel.trans (k.mono (by omega))⟩
theorem un_start (w : World) (so : Option Addr) (sn sc : Nat) (ao : Option Addr) (an ac : Nat) :
    Un w ((w.alloc (.cells #[.slice so sn sc, .slice ao an ac] 25)).alloc (.cells #[.slice none 0 0, .slice none 0 0] 25)) so sn sc ao an ac := by
  have g := ga_start w so sn sc ao an ac
  exact ⟨g.c0, g.c1, ⟨_, _, g.r⟩, g.bel⟩

set_option maxHeartbeats 4000000 in
set_option maxRecDepth 20000 in
theorem transpose_any (so ao : Option Addr) (sn sc an ac : Nat) (sh at' : List Int) (w : World) (hs : Rd w so sn sh) (ha : Rd w ao an at') (h0 : mayF sh = 0)
    (hp : mayF (lens (axsOf sh).reverse) = 0 → ∀ p, p ∈ pls (axsOf sh).reverse → p = -1 ∨ (0 ≤ p ∧ p < an)) :
    Calls Tryz.prog 40 #[.agg #[.slice so sn sc, .slice ao an ac]] w fun e w' => ∃ o1 n1 c1 o2 n2 c2, e = .returned (.tuple #[.agg #[.slice o1 n1 c1, .slice o2 n2 c2], .int .i64 (mayF (lens (axsOf sh).reverse))]) ∧ Ft 3 w' w.heap.size o1 n1 c1 (filS (lens (axsOf sh).reverse)) ∧ Ft 2 w' w.heap.size o2 n2 c2 (gthS at' (axsOf sh).reverse) ∧ Below w.heap.size w w' := by
  have U0 := un_start w so sn sc ao an ac
  have hsl := hs.len
  have hsn8 : sn ≤ 8 := by rw [← hsl]; exact (mayF_zero h0).2.1
  have cAx := axesOf_any so sn sc sh _ (hs.below U0.bel (Nat.le_refl _)) (by omega) (fun k hk => nth_small h0 (by omega)) (fun k hk => drop_small h0 k)
  have hsz : ((w.alloc (.cells #[.slice so sn sc, .slice ao an ac] 25)).alloc (.cells #[.slice none 0 0, .slice none 0 0] 25)).heap.size = w.heap.size + 1 + 1 := by simp
  rw [hsz] at cAx
  have HL : Hid (∀ k, k < sn → (nax (axsOf sh).reverse k).len ≤ 1000000) := fun k hk => by
    rw [nax_rev (by rw [axsOf_len]; omega), axsOf_nax (by rw [axsOf_len]; omega)]
    have := nth_small h0 (k := (axsOf sh).length - 1 - k) (by rw [axsOf_len]; omega)
    show (nth sh ((axsOf sh).length - 1 - k)).toNat ≤ 1000000
    omega
  have HP : Hid (mayF (lens (axsOf sh).reverse) = 0 → ∀ p, p ∈ pls (axsOf sh).reverse → p = -1 ∨ (0 ≤ p ∧ p < an)) := hp
  clear hp h0 hsl
  obtain ⟨x0, x1, _, _⟩ := U0
  go_enter Tryz.func40, Tryz.ntmps40
  go_wp2_with (first
    | (go_at_call 59; (with_reducible refine cAx.mono ?_); rintro e w4 ⟨rfl, X4, k4⟩)
    | (go_at_call 62; (with_reducible refine (reverseX_any _ _ _ _ w4 X4 (by omega)).mono ?_); rintro e w5 ⟨⟨v5, rfl⟩, X5, k5⟩; have U5 := ((un_start w so sn sc ao an ac).below k4 (by omega)).below (k5 (w.heap.size + 1 + 1) (Nat.le_refl _)) (Nat.le_refl _); obtain ⟨y0, y1, _, _⟩ := U5)
    | (go_at_call 61; (with_reducible refine (gather_any so ao (some ⟨w.heap.size + 1 + 1, 0, none⟩) sn sc an ac sn sn at' _ w5 (ha.below (((un_start w so sn sc ao an ac).below k4 (by omega)).below (k5 (w.heap.size + 1 + 1) (Nat.le_refl _)) (Nat.le_refl _)).bel (Nat.le_refl _)) X5.ax (by omega) HL.out HP.out).mono ?_); rintro e w6 ⟨o1, n1, c1, o2, n2, c2, rfl, f1, f2, k6⟩; have U5' := ((un_start w so sn sc ao an ac).below k4 (by omega)).below (k5 (w.heap.size + 1 + 1) (Nat.le_refl _)) (Nat.le_refl _); have hz5 := U5'.sz; have U6 := U5'.below k6 hz5; obtain ⟨u6, v6, hr6⟩ := U6.r; obtain ⟨z0, z1, z2, z3⟩ := box2 hr6))
  (try simp only [Exit.inBlock, Exit.then])
  refine bodyPost_ret (v := .tuple #[.agg #[.slice o1 n1 c1, .slice o2 n2 c2], .int .i64 (mayF (lens (axsOf sh).reverse))]) (by rw [results_cell_tmp rfl]; go_simp) rfl ?_
  exact ⟨o1, n1, c1, o2, n2, c2, rfl, (ft_set (w := w) f1 (by omega) _ _).mono (by omega), (ft_set (w := w) f2 (by omega) _ _).mono (by omega), below_set2 _ _ _ _ U6.bel (by omega) (Nat.le_refl _)⟩
end Go.Proofs.YtpfdiammgdnhmaaGreat
