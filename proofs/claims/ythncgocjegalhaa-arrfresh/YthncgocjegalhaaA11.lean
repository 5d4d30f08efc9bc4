
/- Contract: an array of one number everywhere. -/

import Derived.Test.YthncgocjegalhaaA10

namespace Go.Proofs.Ythncgocjegalhaa

open Go.RowKit

set_option linter.unusedVariables false

/-- The answers of Fill: the shape, the atoms. -/
def filS (sh : List Int) : List Int := if mayF sh = 0 then sh else []
def filA (sh : List Int) (n : Int) : List Int := if mayF sh = 0 then List.replicate (pr sh).toNat n else []

set_option maxHeartbeats 2000000 in
theorem fill_any (so : Option Addr) (sn sc : Nat) (sh : List Int) (n : Int) (w : World) (h : Rd w so sn sh) (hs : Sl so sn sc) (h1 : -9223372036854775808 ≤ n) (h2 : n ≤ 9223372036854775807) :
    Calls Try.prog 23 #[.slice so sn sc, .int .i64 n] w fun e w' => ∃ o1 n1 c1 o2 n2 c2, e = .returned (.tuple #[.agg #[.slice o1 n1 c1, .slice o2 n2 c2], .int .i64 (mayF sh)]) ∧ Ft 3 w' w.heap.size o1 n1 c1 (filS sh) ∧ Ft 2 w' w.heap.size o2 n2 c2 (filA sh n) ∧ apart o1 o2 ∧ Below w.heap.size w w' := by
  have k0 := box_below w (.cells #[.slice none 0 0, .slice none 0 0] 36)
  have b0 := allocNew w (.cells #[.slice none 0 0, .slice none 0 0] 36)
  have h' := h.below k0 (Nat.le_refl _)
  have hz := size_any so sn sc sh _ h'
  by_cases h0 : mayF sh = 0
  · have bd := pr_small h0 sh.length (Nat.le_refl _)
    rw [List.take_length] at bd
    rw [h0, sizeF_ok h0] at hz
    have e1 : filS sh = sh := if_pos h0
    have e2 : filA sh n = List.replicate (pr sh).toNat n := if_pos h0
    rw [e1, e2, h0]
    obtain ⟨m, hm⟩ : ∃ m : Nat, pr sh = (m : Int) := ⟨(pr sh).toNat, by omega⟩
    rw [hm] at hz ⊢
    simp only [Int.toNat_natCast]
    have hm4 : m ≤ 4096 := by omega
    clear hm bd e1 e2 h0
    have hc := clone_any so sn sc sh _ h' hs
    have hr : ∀ W : World, Calls Try.prog 40 #[.slice (some ⟨W.heap.size, 0, none⟩) 1 1, .int .i64 (m : Nat)] (W.alloc (.cells #[.int .i64 n] 2)) fun e w' => ∃ ao cap, e = .returned (.slice ao m cap) ∧ Ft 2 w' (W.heap.size + 1) ao m cap (List.replicate m n) ∧ Below (W.heap.size + 1) (W.alloc (.cells #[.int .i64 n] 2)) w' := by
      intro W
      have hb := allocNew W (.cells #[.int .i64 n] 2)
      have := repeat_any ⟨W.heap.size, 0, none⟩ 1 n m (W.alloc (.cells #[.int .i64 n] 2)) hm4 ((cell_of_row _ _ 0 _ _ (0, 0) hb).trans rfl) (by simp) rfl h1 h2
      rw [World.size_alloc] at this
      exact this
    go_enter Try.func23, Try.ntmps23
    go_wp2_with (first
      | (go_at_call 39; refine hz.mono ?_; rintro e w' ⟨rfl, hw⟩; rw [hw]; clear hw w')
      | (go_at_call 32; refine hc.mono ?_; rintro e w1 ⟨o1, c1, rfl, f1, hb1⟩; have bx1 := (hb1.block w.heap.size (by simp)).trans b0; have hs1 := hb1.size; simp only [World.size_alloc] at hs1)
      | (go_at_call 40; refine (hr _).mono ?_; rintro e w2 ⟨o2, c2, rfl, f2, hb2⟩; have kk := box_below w1 (.cells #[.int .i64 n] 2); have bx2 := (hb2.block w.heap.size (by omega)).trans ((kk.block w.heap.size (by omega)).trans bx1); obtain ⟨q0, q1, z0, z1⟩ := box2 bx2))
    (try simp only [Exit.inBlock, Exit.then])
    refine bodyPost_ret (v := .tuple #[.agg #[.slice o1 sn c1, .slice o2 m c2], .int .i64 0]) (by rw [results_cell_tmp rfl]; go_simp) rfl ?_
    have hb3 : Below w1.heap.size w1 w2 := kk.trans (hb2.mono (by omega))
    have f1' := f1.below hb3 (Nat.le_refl _)
    have hs2 := hb3.size
    have k := set2 w2 w.heap.size 0 1 (.slice o1 sn c1) (.slice o2 m c2)
    have a1 := f1.at
    have a2 := f2.at
    simp only [World.size_alloc] at a1
    refine ⟨o1, sn, c1, o2, m, c2, rfl, (f1'.keep1 k (fun b off e => ?_)).mono (by simp), (f2.keep1 k (fun b off e => ?_)).mono (by omega), ?_, below_set2 _ _ _ _ ((k0.trans (hb1.mono (by simp))).trans (hb3.mono (by omega))) (Nat.le_refl _) (Nat.le_refl _)⟩
    · have := (a1 b off e).1; intro e'; cases e'; omega
    · have := (a2 b off e).1; intro e'; cases e'; omega
    · intro p q e1 e2
      rcases f1.own.2 with ⟨e3, _⟩ | ⟨g, c, cur, e3, hB, hg, _⟩
      · cases e3; cases e1
      · rcases f2.own.2 with ⟨e4, _⟩ | ⟨g2, c2, cur2, e4, hB2, _⟩
        · cases e4; cases e2
        · cases e3; cases e4; cases e1; cases e2
          have := (Array.getElem?_eq_some_iff.1 hg).1
          simp; omega
  · have e1 : filS sh = [] := if_neg h0
    have e2 : filA sh n = [] := if_neg h0
    rw [e1, e2]
    have h0' : (mayF sh != 0) = true := by simpa using h0
    clear h0 e1 e2
    obtain ⟨q0, q1, z0, z1⟩ := box2 b0
    go_enter Try.func23, Try.ntmps23
    go_wp2_with (go_at_call 39; refine hz.mono ?_; rintro e w' ⟨rfl, hw⟩; rw [hw]; clear hw w')
    (try simp only [Exit.inBlock, Exit.then])
    refine bodyPost_ret (v := .tuple #[.agg #[.slice none 0 0, .slice none 0 0], .int .i64 (mayF sh)]) (by rw [results_cell_tmp rfl]; go_simp) rfl ?_
    refine ⟨none, 0, 0, none, 0, 0, rfl, Ft.nil _ _ _, Ft.nil _ _ _, apart_nil _, ?_⟩
    first | exact k0 | exact below_set2 _ _ _ _ k0 (Nat.le_refl _) (Nat.le_refl _)
end Go.Proofs.Ythncgocjegalhaa
