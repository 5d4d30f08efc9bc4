
/- Contract of package mold: an array laid into a shape whose items are its own. -/

import Derived.Test.YtpfdiammgdnhmaaGreatMM

namespace Go.Proofs.YtpfdiammgdnhmaaGreat

open Go.RowKit

set_option linter.unusedVariables false

theorem set_self {l : List Value} {i : Nat} {v : Value} (h : l[i]? = some v) : l.set i v = l := by
  apply List.ext_getElem?
  intro j
  by_cases e : i = j
  · subst e
    obtain ⟨hl, _⟩ := List.getElem?_eq_some_iff.1 h
    rw [List.getElem?_set_self hl, h]
  · rw [List.getElem?_set_ne e]
/-- A length that is written as it was. -/
theorem Axs.same {W : World} {g n k : Nat} {axs : List Ax} (h : Axs W g n axs) (hk : k < n) : Axs (W.setCell ⟨g, k * 4, none⟩ (.int .i64 ((nax axs k).len : Nat))) g n axs := by
  obtain ⟨cur, h1, h2, h3⟩ := h.row
  obtain ⟨K, cs, bs, a1, _⟩ := h3 k hk
  have hg := set1 W g (k * 4) (.int .i64 ((nax axs k).len : Nat))
  have r := heap_setCell_same W g (k * 4) _ 76 (.int .i64 ((nax axs k).len : Nat)) h1
  rw [show (cur.toArray.setIfInBounds (k * 4) (.int .i64 ((nax axs k).len : Nat))) = cur.toArray by simp [set_self a1]] at r
  exact ⟨h.len, cur, r, h2, fun j hj => (h3 j hj).keep (fun b hb hne => hg.block b hb (some_ne hne))⟩
theorem gth_plain {s at' : List Int} (h0 : mayF s = 0) (hn : 0 < s.length) (hl : (at'.length : Int) = pr s) : gth at' (axsOf s) = at' := by
  cases s with
  | nil => simp at hn
  | cons z r =>
    have hz := (mayF_zero h0).1
    have h1 : 0 ≤ z := hz 0 (by simp)
    have hr : ∀ k, k < r.length → 0 ≤ nth r k := fun k hk => hz (k + 1) (by simpa using hk)
    have hp := pr_nonneg hr
    rw [pr_cons] at hl
    show gth at' (⟨z.toNat, z.toNat, (pr r).toNat, fun i => (i : Int)⟩ :: axsOf r) = at'
    rw [gth_first at' _ hr rfl]
    dsimp only
    have e : at'.length = z.toNat * (pr r).toNat := by
      have : ((z.toNat * (pr r).toNat : Nat) : Int) = z * pr r := by rw [Int.natCast_mul, Int.toNat_of_nonneg h1, Int.toNat_of_nonneg hp]
      omega
    rw [rows_congr (G := fun i j => nth at' (i * (pr r).toNat + j)) (fun i hi j hj => by rw [if_neg (by omega)]; simp), rows_self e]
theorem pls_plain_in {s at' : List Int} (h0 : mayF s = 0) (hn : 0 < s.length) (hl : (at'.length : Int) = pr s) : ∀ p, p ∈ pls (axsOf s) → p = -1 ∨ (0 ≤ p ∧ p < at'.length) := by
  cases s with
  | nil => simp at hn
  | cons z r =>
    have hz := (mayF_zero h0).1
    have h1 : 0 ≤ z := hz 0 (by simp)
    have hr : ∀ k, k < r.length → 0 ≤ nth r k := fun k hk => hz (k + 1) (by simpa using hk)
    rw [pr_cons] at hl
    exact pls_first_in (a := ⟨z.toNat, z.toNat, (pr r).toNat, fun i => (i : Int)⟩) hr rfl (by show ((z.toNat : Nat) : Int) * pr r ≤ _; rw [Int.toNat_of_nonneg h1]; omega)

set_option maxHeartbeats 4000000 in
set_option maxRecDepth 20000 in
theorem laid_any (xo ao so io : Option Addr) (xn xc an ac sn sc m ic : Nat) (at' s it : List Int) (w : World) (ha : Rd w ao an at') (hs : Rd w so sn s) (h0 : mayF s = 0) (hsn : 0 < sn) (hi : Rd w io m it) (hit : it = s.drop 1) (hl : (at'.length : Int) = pr s) :
    Calls Tryz.prog 70 #[.agg #[.slice xo xn xc, .slice ao an ac], .slice so sn sc, .slice io m ic] w fun e w' => ∃ o2 n2 c2, e = .returned (.slice o2 n2 c2) ∧ Ft 2 w' w.heap.size o2 n2 c2 at' ∧ Below w.heap.size w w' := by
  have b0 := allocNew w (.cells #[.slice xo xn xc, .slice ao an ac] 25)
  have k0 := box_below w (.cells #[.slice xo xn xc, .slice ao an ac] 25)
  have hsl := hs.len
  have hil : m + 1 = sn := by have := hi.len; rw [hit, List.length_drop, hsl] at this; omega
  have hsn8 : sn ≤ 8 := by rw [← hsl]; exact (mayF_zero h0).2.1
  have cAx := axesOf_any so sn sc s _ (hs.below k0 (Nat.le_refl _)) (by omega) (fun k hk => nth_small h0 (by omega)) (fun k hk => drop_small h0 k)
  rw [World.size_alloc] at cAx
  have HLE : Hid (lens (axsOf s) = s) := lens_axsOf (mayF_zero h0).1
  have hga := fun W (gW : Rd W ao an at') (A : Axs W (w.heap.size + 1) sn (axsOf s)) => gather_any xo ao (some ⟨w.heap.size + 1, 0, none⟩) xn xc an ac sn sn at' (axsOf s) W gW A.ax (by omega) (fun k hk => by
    rw [axsOf_nax (by omega)]
    have := nth_small h0 (k := k) (by omega)
    show (nth s k).toNat ≤ 1000000
    omega) (fun _ => by rw [← ha.len]; exact pls_plain_in h0 (by omega) hl)
  rw [HLE.out, h0] at hga
  rw [show gthS at' (axsOf s) = at' by unfold gthS; rw [HLE.out, if_pos h0]; exact gth_plain h0 (by omega) hl] at hga
  have HN : Hid (∀ k, k < m → nth it k = ((nax (axsOf s) (k + 1)).len : Int)) := fun k hk => by
    rw [hit, axsOf_nax (by omega), nth_drop, Nat.add_comm 1 k]
    have := nth_small h0 (k := k + 1) (by omega)
    show _ = (((nth s (k + 1)).toNat : Nat) : Int)
    omega
  clear h0 hl hsl HLE hit
  go_enter Tryz.func70, Tryz.ntmps70
  go_wp2_with (go_at_call 59; (with_reducible refine cAx.mono ?_); rintro e w4 ⟨rfl, X4, k4⟩)
  have B4 : Below w.heap.size w w4 := k0.trans (k4.mono (by omega))
  have C4 := (k4.block w.heap.size (by omega)).trans b0
  clear cAx k4 k0
  go_loopw [16] (fun i V => ∃ k : Nat, k ≤ m ∧ i = .int .i64 (k : Nat) ∧ Axs V (w.heap.size + 1) sn (axsOf s) ∧ Below w.heap.size w V ∧ V.heap[w.heap.size]? = some (.cells #[.slice xo xn xc, .slice ao an ac] 25 (0, 0))) (fun i _ => m - (intOf i).toNat)
  case atStart => exact ⟨0, Nat.zero_le _, rfl, X4, B4, C4⟩
  case round =>
    obtain ⟨k, hk, rfl, A, BV, CV⟩ := hrel
    clear X4 B4 C4
    by_cases hlt : k < m
    · obtain ⟨b, off, rfl, hb, hc⟩ := (hi.below BV (Nat.le_refl _)).cells (by omega)
      have c1 := hc k hlt
      have A2 := A.same (k := k + 1) (by omega)
      obtain ⟨s0, s1, s2, s3, y0, _, _, _, f0, _, _, _⟩ := A.slots (k := k + 1) (by omega)
      rw [← HN.out k hlt] at A2
      have w1 : IntKind.i64.wrap ((k : Int) + 1) = (k : Int) + 1 := wrapIn _ (by omega)
      have b1 : (k : Int) + 1 < (sn : Int) := by omega
      have e1 : ((k : Int) + 1).toNat = k + 1 := by omega
      clear hc
      go_wp2
      go_roundw
      case rel => exact ⟨k + 1, by omega, by go_num, A2, BV.setCell (p := ⟨w.heap.size + 1, (k + 1) * 4, none⟩) (by simp) _, (Below.heap_setCell _ _ _ _ (by simp)).trans CV⟩
      case measure => simp [intOf]; omega
    · obtain rfl : m = k := by omega
      obtain ⟨x0, x1, _, _⟩ := box2 CV
      go_wp2_with (go_at_call 61; (with_reducible refine (hga _ (ha.below BV (Nat.le_refl _)) A).mono ?_); rintro e w5 ⟨o1, n1, c1, o2, n2, c2, rfl, f1, f2, k5⟩)
      go_ret
      refine ⟨_, _, _, rfl, (f2.below (box_below w5 _) (Nat.le_refl _)).mono BV.size, (BV.trans (k5.mono BV.size)).trans ((box_below w5 _).mono (Nat.le_trans BV.size k5.size))⟩
end Go.Proofs.YtpfdiammgdnhmaaGreat
