
/- Contracts of package mold: arrays that are turned and cut by numbers. -/

import Derived.Test.YtpfdiammgdnhmaaGreatMI
import Derived.Deep.RegionHeld3


namespace Go.Proofs.YtpfdiammgdnhmaaGreat

open Go.RowKit

set_option linter.unusedVariables false

/-- Two arrays in their boxes, and a third box for the answer, whatever it holds. -/
structure Du (w W : World) (xso : Option Addr) (xsn xsc : Nat) (xo : Option Addr) (xn xc : Nat) (so : Option Addr) (sn sc : Nat) (ao : Option Addr) (an ac : Nat) : Prop where
  c0 : W.cell? ⟨w.heap.size, 0, none⟩ = some (.slice xso xsn xsc)
  c1 : W.cell? ⟨w.heap.size, 1, none⟩ = some (.slice xo xn xc)
  d0 : W.cell? ⟨w.heap.size + 1, 0, none⟩ = some (.slice so sn sc)
  d1 : W.cell? ⟨w.heap.size + 1, 1, none⟩ = some (.slice ao an ac)
  r : ∃ x y, W.heap[w.heap.size + 1 + 1]? = some (.cells #[x, y] 25 (0, 0))
  bel : Below w.heap.size w W
theorem Du.sz {w W : World} {xso : Option Addr} {xsn xsc : Nat} {xo : Option Addr} {xn xc : Nat} {so : Option Addr} {sn sc : Nat} {ao : Option Addr} {an ac : Nat} (h : Du w W xso xsn xsc xo xn xc so sn sc ao an ac) : w.heap.size + 3 ≤ W.heap.size := by
  obtain ⟨x, y, hr⟩ := h.r
  have := (Array.getElem?_eq_some_iff.1 hr).1
  omega
theorem Du.below {w W W' : World} {xso : Option Addr} {xsn xsc : Nat} {xo : Option Addr} {xn xc : Nat} {so : Option Addr} {sn sc : Nat} {ao : Option Addr} {an ac : Nat} {B : Nat} (h : Du w W xso xsn xsc xo xn xc so sn sc ao an ac) (k : Below B W W') (hB : W.heap.size ≤ B) : Du w W' xso xsn xsc xo xn xc so sn sc ao an ac := by
  have hs := h.sz
  obtain ⟨x, y, hr⟩ := h.r
  exact ⟨(k.cell (p := ⟨w.heap.size, 0, none⟩) (show w.heap.size < B by omega)).trans h.c0, (k.cell (p := ⟨w.heap.size, 1, none⟩) (show w.heap.size < B by omega)).trans h.c1, (k.cell (p := ⟨w.heap.size + 1, 0, none⟩) (show w.heap.size + 1 < B by omega)).trans h.d0, (k.cell (p := ⟨w.heap.size + 1, 1, none⟩) (show w.heap.size + 1 < B by omega)).trans h.d1, ⟨x, y, (k.block _ (by omega)).trans hr⟩, h.bel.trans (k.mono (by omega))⟩
theorem Du.drew {w W : World} {xso : Option Addr} {xsn xsc : Nat} {xo : Option Addr} {xn xc : Nat} {so : Option Addr} {sn sc : Nat} {ao : Option Addr} {an ac : Nat} (h : Du w W xso xsn xsc xo xn xc so sn sc ao an ac) : Du w W.drew xso xsn xsc xo xn xc so sn sc ao an ac := h.below (Below.refl _ W).drew (Nat.le_refl _)
theorem Du.all {w W : World} {xso : Option Addr} {xsn xsc : Nat} {xo : Option Addr} {xn xc : Nat} {so : Option Addr} {sn sc : Nat} {ao : Option Addr} {an ac : Nat} (h : Du w W xso xsn xsc xo xn xc so sn sc ao an ac) : W.cell? ⟨w.heap.size, 0, none⟩ = some (.slice xso xsn xsc) ∧ W.cell? ⟨w.heap.size, 1, none⟩ = some (.slice xo xn xc) ∧ W.cell? ⟨w.heap.size + 1, 0, none⟩ = some (.slice so sn sc) ∧ W.cell? ⟨w.heap.size + 1, 1, none⟩ = some (.slice ao an ac) ∧ Du w W xso xsn xsc xo xn xc so sn sc ao an ac := ⟨h.c0, h.c1, h.d0, h.d1, h⟩
theorem Du.set {w W : World} {xso : Option Addr} {xsn xsc : Nat} {xo : Option Addr} {xn xc : Nat} {so : Option Addr} {sn sc : Nat} {ao : Option Addr} {an ac : Nat} (h : Du w W xso xsn xsc xo xn xc so sn sc ao an ac) (u v : Value) : Du w ((W.setCell ⟨w.heap.size + 1 + 1, 0, none⟩ u).setCell ⟨w.heap.size + 1 + 1, 1, none⟩ v) xso xsn xsc xo xn xc so sn sc ao an ac := by
  have hs := h.sz
  obtain ⟨x, y, hr⟩ := h.r
  have hg := set2 W (w.heap.size + 1 + 1) 0 1 u v
  have a1 := heap_setCell_same W (w.heap.size + 1 + 1) 0 _ 25 u hr
  have a2 := heap_setCell_same _ (w.heap.size + 1 + 1) 1 _ 25 v a1
  refine ⟨hg.cell h.c0 (show some w.heap.size ≠ _ from some_ne (by omega)), hg.cell h.c1 (show some w.heap.size ≠ _ from some_ne (by omega)), hg.cell h.d0 (show some (w.heap.size + 1) ≠ _ from some_ne (by omega)), hg.cell h.d1 (show some (w.heap.size + 1) ≠ _ from some_ne (by omega)), ⟨u, v, by simpa using a2⟩, below_set2 _ _ _ _ h.bel (by omega) (Nat.le_refl _)⟩
theorem du_start (w : World) (xso : Option Addr) (xsn xsc : Nat) (xo : Option Addr) (xn xc : Nat) (so : Option Addr) (sn sc : Nat) (ao : Option Addr) (an ac : Nat) :
    Du w (((w.alloc (.cells #[.slice xso xsn xsc, .slice xo xn xc] 25)).alloc (.cells #[.slice so sn sc, .slice ao an ac] 25)).alloc (.cells #[.slice none 0 0, .slice none 0 0] 25)) xso xsn xsc xo xn xc so sn sc ao an ac := by
  have t := two_boxes w xso xo so ao xsn xsc xn xc sn sc an ac
  have b1 := allocNew ((w.alloc (.cells #[.slice xso xsn xsc, .slice xo xn xc] 25)).alloc (.cells #[.slice so sn sc, .slice ao an ac] 25)) (.cells #[.slice none 0 0, .slice none 0 0] 25)
  have k := box_below ((w.alloc (.cells #[.slice xso xsn xsc, .slice xo xn xc] 25)).alloc (.cells #[.slice so sn sc, .slice ao an ac] 25)) (.cells #[.slice none 0 0, .slice none 0 0] 25)
  have u := t.below k
  rw [World.size_alloc, World.size_alloc] at b1
  exact ⟨u.s0, u.a0, u.s1, u.a1, ⟨_, _, b1⟩, u.bel⟩

theorem drop_small {s : List Int} (h0 : mayF s = 0) (k : Nat) : 0 ≤ pr (s.drop k) ∧ pr (s.drop k) ≤ 4096 := by
  have hm : mayF (s.drop k) = 0 := by
    obtain ⟨h1, h2, h3⟩ := mayF_zero h0
    induction k with
    | zero => exact h0
    | succ k ih => have := mayF_tail ih; rwa [List.drop_drop] at this
  have := pr_small hm (s.drop k).length (Nat.le_refl _)
  rwa [List.take_length] at this

set_option maxHeartbeats 4000000 in
set_option maxRecDepth 20000 in
theorem rotate_turn (xso xo so ao : Option Addr) (xsn xsc xn xc sn sc an ac : Nat) (xs sh at' : List Int) (w : World) (hx : Rd w xo xn xs) (hs : Rd w so sn sh) (ha : Rd w ao an at') (h0 : mayF sh = 0) (hsn : 0 < sn) (hle : xn ≤ sn) (hl : ∀ k, k < sn → (nax (chL tuA (axsOf sh) xs) k).len ≤ 1000000)
    (hp : mayF (lens (chL tuA (axsOf sh) xs)) = 0 → ∀ p, p ∈ pls (chL tuA (axsOf sh) xs) → p = -1 ∨ (0 ≤ p ∧ p < an)) :
    Calls Tryz.prog 48 #[.agg #[.slice xso xsn xsc, .slice xo xn xc], .agg #[.slice so sn sc, .slice ao an ac]] w fun e w' => ∃ o1 n1 c1 o2 n2 c2, e = .returned (.tuple #[.agg #[.slice o1 n1 c1, .slice o2 n2 c2], .int .i64 (mayF (lens (chL tuA (axsOf sh) xs)))]) ∧ Ft 3 w' w.heap.size o1 n1 c1 (filS (lens (chL tuA (axsOf sh) xs))) ∧ Ft 2 w' w.heap.size o2 n2 c2 (gthS at' (chL tuA (axsOf sh) xs)) ∧ Below w.heap.size w w' := by
  have D0 := du_start w xso xsn xsc xo xn xc so sn sc ao an ac
  have hsl := hs.len
  have hsn8 : sn ≤ 8 := by rw [← hsl]; exact (mayF_zero h0).2.1
  have D1 := D0.drew
  generalize hW1 : (((w.alloc (.cells #[.slice xso xsn xsc, .slice xo xn xc] 25)).alloc (.cells #[.slice so sn sc, .slice ao an ac] 25)).alloc (.cells #[.slice none 0 0, .slice none 0 0] 25)).drew = W1 at D1
  have cAx := axesOf_any so sn sc sh W1 (hs.below D1.bel (Nat.le_refl _)) (by omega) (fun k hk => nth_small h0 (by omega)) (fun k hk => drop_small h0 k)
  have hG : W1.heap.size = w.heap.size + 1 + 1 + 1 := by rw [← hW1]; simp
  have cAl := fun w4 (k4 : Below (w.heap.size + 1 + 1 + 1) W1 w4) (X4 : Axs w4 (w.heap.size + 1 + 1 + 1) sn (axsOf sh)) => alongAxes_turn W1 xso xo so ao xsn xsc xn xc sn sc an ac (w.heap.size + 1 + 1 + 1) sn sn xs at' (axsOf sh) w4 (hx.below D1.bel (Nat.le_refl _)) (ha.below D1.bel (Nat.le_refl _)) (by rw [hG]; exact k4) (by omega) X4 (by omega) hle (fun k hk => by
    rw [axsOf_nax (by omega)]
    have := nth_small h0 (k := k) (by omega)
    show (nth sh k).toNat ≤ 1000000
    omega) hl hp
  have tsn : decide (0 < sn) = true := by simpa using hsn
  have tsn2 : ¬ sn = 0 := by omega
  have tsn3 : ((sn : Int) == 0) = false := by simp; omega
  have hsz1 := D1.sz
  rw [hG] at cAx cAl
  subst hW1
  clear hl hp hsn hle h0 hsl
  obtain ⟨x0, x1, x2, x3, _⟩ := D0.all
  go_enter Tryz.func48, Tryz.ntmps48
  go_wp2
  clear x0 x1 x2 x3
  go_region_held3 (fun V => V.cell? ⟨w.heap.size, 0, none⟩ = some (.slice xso xsn xsc) ∧ V.cell? ⟨w.heap.size, 1, none⟩ = some (.slice xo xn xc) ∧ V.cell? ⟨w.heap.size + 1, 0, none⟩ = some (.slice so sn sc) ∧ V.cell? ⟨w.heap.size + 1, 1, none⟩ = some (.slice ao an ac) ∧ Du w V xso xsn xsc xo xn xc so sn sc ao an ac) (first | exact Du.all (by assumption) | exact Du.all (Du.drew (by assumption)) | exact Du.all (Du.set (by assumption) _ _))
    (first
      | (go_at_call 59; (with_reducible refine cAx.mono ?_); rintro e w4 ⟨rfl, X4, k4⟩; have D4 := D1.below k4 (Nat.le_of_eq hG))
      | (go_at_call 80; (with_reducible refine (cAl w4 k4 X4).mono ?_); rintro e w5 ⟨o1, n1, c1, o2, n2, c2, rfl, f1, f2, k5⟩; have D5 := D1.below k5 (Nat.le_of_eq hG); obtain ⟨u5, v5, hr5⟩ := D5.r; obtain ⟨z0, z1, z2, z3⟩ := box2 hr5))
  go_wp2
  (try simp only [Exit.inBlock, Exit.then])
  refine bodyPost_ret (v := .tuple #[.agg #[.slice o1 n1 c1, .slice o2 n2 c2], .int .i64 (mayF (lens (chL tuA (axsOf sh) xs)))]) (by rw [results_cell_tmp rfl]; go_simp) rfl ?_
  exact ⟨o1, n1, c1, o2, n2, c2, rfl, (ft_set (w := w) f1 (by omega) _ _).mono (by omega), (ft_set (w := w) f2 (by omega) _ _).mono (by omega), below_set2 _ _ _ _ D5.bel (by omega) (Nat.le_refl _)⟩

set_option maxHeartbeats 4000000 in
set_option maxRecDepth 20000 in
theorem cut_take (xso xo so ao : Option Addr) (xsn xsc xn xc sn sc an ac : Nat) (xs sh at' : List Int) (w : World) (hx : Rd w xo xn xs) (hs : Rd w so sn sh) (ha : Rd w ao an at') (h0 : mayF sh = 0) (hsn : 0 < sn) (hle : xn ≤ sn) (hl : ∀ k, k < sn → (nax (chL taA (axsOf sh) xs) k).len ≤ 1000000)
    (hp : mayF (lens (chL taA (axsOf sh) xs)) = 0 → ∀ p, p ∈ pls (chL taA (axsOf sh) xs) → p = -1 ∨ (0 ≤ p ∧ p < an)) :
    Calls Tryz.prog 77 #[.agg #[.slice xso xsn xsc, .slice xo xn xc], .agg #[.slice so sn sc, .slice ao an ac], .func (.func 78) #[] #[]] w fun e w' => ∃ o1 n1 c1 o2 n2 c2, e = .returned (.tuple #[.agg #[.slice o1 n1 c1, .slice o2 n2 c2], .int .i64 (mayF (lens (chL taA (axsOf sh) xs)))]) ∧ Ft 3 w' w.heap.size o1 n1 c1 (filS (lens (chL taA (axsOf sh) xs))) ∧ Ft 2 w' w.heap.size o2 n2 c2 (gthS at' (chL taA (axsOf sh) xs)) ∧ Below w.heap.size w w' := by
  have D0 := du_start w xso xsn xsc xo xn xc so sn sc ao an ac
  have hsl := hs.len
  have hsn8 : sn ≤ 8 := by rw [← hsl]; exact (mayF_zero h0).2.1
  have D1 := D0.drew
  generalize hW1 : (((w.alloc (.cells #[.slice xso xsn xsc, .slice xo xn xc] 25)).alloc (.cells #[.slice so sn sc, .slice ao an ac] 25)).alloc (.cells #[.slice none 0 0, .slice none 0 0] 25)).drew = W1 at D1
  have cAx := axesOf_any so sn sc sh W1 (hs.below D1.bel (Nat.le_refl _)) (by omega) (fun k hk => nth_small h0 (by omega)) (fun k hk => drop_small h0 k)
  have hG : W1.heap.size = w.heap.size + 1 + 1 + 1 := by rw [← hW1]; simp
  have cAl := fun w4 (k4 : Below (w.heap.size + 1 + 1 + 1) W1 w4) (X4 : Axs w4 (w.heap.size + 1 + 1 + 1) sn (axsOf sh)) => alongAxes_take W1 xso xo so ao xsn xsc xn xc sn sc an ac (w.heap.size + 1 + 1 + 1) sn sn xs at' (axsOf sh) w4 (hx.below D1.bel (Nat.le_refl _)) (ha.below D1.bel (Nat.le_refl _)) (by rw [hG]; exact k4) (by omega) X4 (by omega) hle (fun k hk => by
    rw [axsOf_nax (by omega)]
    have := nth_small h0 (k := k) (by omega)
    show (nth sh k).toNat ≤ 1000000
    omega) hl hp
  have tsn : decide (0 < sn) = true := by simpa using hsn
  have tsn2 : ¬ sn = 0 := by omega
  have tsn3 : ((sn : Int) == 0) = false := by simp; omega
  have hsz1 := D1.sz
  rw [hG] at cAx cAl
  subst hW1
  clear hl hp hsn hle h0 hsl
  obtain ⟨x0, x1, x2, x3, _⟩ := D0.all
  go_enter Tryz.func77, Tryz.ntmps77
  go_wp2
  clear x0 x1 x2 x3
  go_region_held3 (fun V => V.cell? ⟨w.heap.size, 0, none⟩ = some (.slice xso xsn xsc) ∧ V.cell? ⟨w.heap.size, 1, none⟩ = some (.slice xo xn xc) ∧ V.cell? ⟨w.heap.size + 1, 0, none⟩ = some (.slice so sn sc) ∧ V.cell? ⟨w.heap.size + 1, 1, none⟩ = some (.slice ao an ac) ∧ Du w V xso xsn xsc xo xn xc so sn sc ao an ac) (first | exact Du.all (by assumption) | exact Du.all (Du.drew (by assumption)) | exact Du.all (Du.set (by assumption) _ _))
    (first
      | (go_at_call 59; (with_reducible refine cAx.mono ?_); rintro e w4 ⟨rfl, X4, k4⟩; have D4 := D1.below k4 (Nat.le_of_eq hG))
      | (go_at_call 80; (with_reducible refine (cAl w4 k4 X4).mono ?_); rintro e w5 ⟨o1, n1, c1, o2, n2, c2, rfl, f1, f2, k5⟩; have D5 := D1.below k5 (Nat.le_of_eq hG); obtain ⟨u5, v5, hr5⟩ := D5.r; obtain ⟨z0, z1, z2, z3⟩ := box2 hr5))
  go_wp2
  (try simp only [Exit.inBlock, Exit.then])
  refine bodyPost_ret (v := .tuple #[.agg #[.slice o1 n1 c1, .slice o2 n2 c2], .int .i64 (mayF (lens (chL taA (axsOf sh) xs)))]) (by rw [results_cell_tmp rfl]; go_simp) rfl ?_
  exact ⟨o1, n1, c1, o2, n2, c2, rfl, (ft_set (w := w) f1 (by omega) _ _).mono (by omega), (ft_set (w := w) f2 (by omega) _ _).mono (by omega), below_set2 _ _ _ _ D5.bel (by omega) (Nat.le_refl _)⟩
end Go.Proofs.YtpfdiammgdnhmaaGreat
