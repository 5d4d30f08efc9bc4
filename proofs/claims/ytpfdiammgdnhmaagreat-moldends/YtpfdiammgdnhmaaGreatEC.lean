
/- MoldEnds: the ends of an array, in numbers, and what the calls answer. -/

import Derived.Test.YtpfdiammgdnhmaaGreatEA
import Derived.Test.YtpfdiammgdnhmaaGreatCC

namespace Go.Proofs.YtpfdiammgdnhmaaGreat

open Go.RowKit

set_option linter.unusedVariables false

set_option maxHeartbeats 2000000 in
theorem itemize_any (so ao : Option Addr) (sn sc an ac : Nat) (sh at' : List Int) (w : World) (hs : Rd w so sn sh) (ss : Sl so sn sc) (ha : Rd w ao an at') (sa : Sl ao an ac) (h8 : sn < 8) :
    Calls Tryz.prog 34 #[.agg #[.slice so sn sc, .slice ao an ac]] w fun e w' => Ans w w.heap.size (1 :: sh) at' 0 e w' := by
  have U0 := un_start w so sn sc ao an ac
  have s0 := U0.sz
  have x := U0.all
  obtain ⟨x0, x1, _⟩ := x
  have t0 : ((sn : Int) == 8) = false := by simp; omega
  go_enter Tryz.func34, Tryz.ntmps34
  go_wp2
  generalize (w.alloc (.cells #[.slice so sn sc, .slice ao an ac] 25)).alloc (.cells #[.slice none 0 0, .slice none 0 0] 25) = W0 at *
  have k16 := box_below W0 (.cells #[.int .i64 1] 3)
  have fl := ft_new 3 W0 [1] (by simp) (num1 (by omega) (by omega))
  have k17 := box_below (W0.alloc (.cells #[.int .i64 1] 3)) (.cells #[.slice (some ⟨W0.heap.size, 0, none⟩) 1 1, .slice so sn sc] 22)
  have hv := allocNew (W0.alloc (.cells #[.int .i64 1] 3)) (.cells #[.slice (some ⟨W0.heap.size, 0, none⟩) 1 1, .slice so sn sc] 22)
  have UA := U0.below k16 s0
  have UB := UA.below k17 (by simp; omega)
  have UC := UB.drew
  have UD := UA.drew
  have cCo := concat_any (some ⟨W0.heap.size, 0, none⟩) so 1 1 sn sc (W0.heap.size + 1) [1] sh ((W0.alloc (.cells #[.int .i64 1] 3)).alloc (.cells #[.slice (some ⟨W0.heap.size, 0, none⟩) 1 1, .slice so sn sc] 22)).drew (by rw [World.size_alloc] at hv; exact hv) ((fl.rd.below k17 (Nat.le_refl _)).below (Below.refl _ _).drew (Nat.le_refl _)) fl.sl (hs.below UC.bel (Nat.le_refl _)) ss (by omega) (by omega)
  have c8 := fun V (U : Un w V so sn sc ao an ac) => copied8_any ao an ac at' V (ha.below U.bel (Nat.le_refl _)) sa
  have sB := UC.sz
  clear hv fl
  go_region_held3 (fun V => V.cell? ⟨w.heap.size, 0, none⟩ = some (.slice so sn sc) ∧ V.cell? ⟨w.heap.size, 1, none⟩ = some (.slice ao an ac) ∧ Un w V so sn sc ao an ac) (first | exact Un.all (by assumption) | exact Un.all (Un.drew (by assumption)) | exact Un.all (Un.set (by assumption) _ _))
    (first
      | (go_at_call 56; (with_reducible refine cCo.mono ?_); rintro e w4 ⟨o4, c4, rfl, f4, k4⟩; have U4 := UC.below k4 sB; have s4 := U4.sz)
      | (go_at_call 54; (with_reducible refine (c8 w4 U4).mono ?_); rintro e w5 ⟨o5, c5, rfl, f5, k5⟩; have U5 := U4.below k5 s4; have s5 := U5.sz; obtain ⟨u5, v5, hr5⟩ := U5.r; obtain ⟨z0, z1, z2, z3⟩ := box2 hr5))
  go_wp2
  (try simp only [Exit.inBlock, Exit.then])
  refine bodyPost_ret (v := .tuple #[.agg #[.slice o4 (1 + sn) c4, .slice o5 an c5], .int .i64 0]) (by rw [results_cell_tmp rfl]; go_simp) rfl ?_
  exact ⟨_, _, _, _, _, _, rfl, (ft_set (w := w) (f4.below k5 (Nat.le_refl _)) (by omega) _ _).mono (by omega), (ft_set (w := w) f5 (by omega) _ _).mono (by omega), below_set2 _ _ _ _ U5.bel (by omega) (Nat.le_refl _)⟩

set_option maxHeartbeats 2000000 in
/-- One monad behind another one. -/
theorem then_any (p q : Int) (so ao : Option Addr) (sn sc an ac : Nat) (S1 A1 S2 A2 : List Int) (w : World)
    (h1 : ∀ V, Below w.heap.size w V → Calls Tryz.prog 10 #[.int .i64 q, .agg #[.slice so sn sc, .slice ao an ac]] V fun e w' => Ans V V.heap.size S1 A1 0 e w')
    (h2 : ∀ V o1 n1 c1 o2 n2 c2, Rd V o1 n1 S1 → Sl o1 n1 c1 → Rd V o2 n2 A1 → Sl o2 n2 c2 → Calls Tryz.prog 10 #[.int .i64 p, .agg #[.slice o1 n1 c1, .slice o2 n2 c2]] V fun e w' => Ans V V.heap.size S2 A2 0 e w') :
    Calls Tryz.prog 11 #[.int .i64 p, .int .i64 q, .agg #[.slice so sn sc, .slice ao an ac]] w fun e w' => ∃ o3 n3 c3 o4 n4 c4, e = .returned (.tuple #[.agg #[.slice o3 n3 c3, .slice o4 n4 c4], .bool true]) ∧ Ft 3 w' w.heap.size o3 n3 c3 S2 ∧ Ft 2 w' w.heap.size o4 n4 c4 A2 ∧ Below w.heap.size w w' := by
  have U0 := un_start w so sn sc ao an ac
  have s0 := U0.sz
  have x := U0.all
  obtain ⟨x0, x1, _⟩ := x
  have cA := h1 _ U0.bel
  go_enter Tryz.func11, Tryz.ntmps11
  go_wp2_with (first
    | (go_at_call 10; (with_reducible refine cA.mono ?_); rintro e w1 ⟨o1, n1, c1, o2, n2, c2, rfl, f1, f2, k1⟩; have U1 := U0.below k1 s0; have s1 := U1.sz; have U2 := U1.below (box_below w1 (.cells #[.slice o1 n1 c1, .slice o2 n2 c2] 25)) s1; have s2 := U2.sz)
    | (go_at_call 10; (with_reducible refine (h2 (w1.alloc (.cells #[.slice o1 n1 c1, .slice o2 n2 c2] 25)) o1 n1 c1 o2 n2 c2 (f1.rd.below (box_below w1 _) (Nat.le_refl _)) f1.sl (f2.rd.below (box_below w1 _) (Nat.le_refl _)) f2.sl).mono ?_); rintro e w3 ⟨o3, n3, c3, o4, n4, c4, rfl, f3, f4, k3⟩; have U3 := U2.below k3 s2; have s3 := U3.sz; have U4 := U3.below (box_below w3 (.cells #[.slice o3 n3 c3, .slice o4 n4 c4] 25)) s3; have s4 := U4.sz; obtain ⟨u5, v5, hr5⟩ := U4.r; obtain ⟨z0, z1, z2, z3⟩ := box2 hr5))
  (try simp only [Exit.inBlock, Exit.then])
  refine bodyPost_ret (v := .tuple #[.agg #[.slice o3 n3 c3, .slice o4 n4 c4], .bool true]) (by rw [results_cell_tmp rfl]; go_simp) rfl ?_
  have e3 := f3.below (box_below w3 (.cells #[.slice o3 n3 c3, .slice o4 n4 c4] 25)) (Nat.le_refl _)
  have e4 := f4.below (box_below w3 (.cells #[.slice o3 n3 c3, .slice o4 n4 c4] 25)) (Nat.le_refl _)
  exact ⟨_, _, _, _, _, _, rfl, (ft_set (w := w) e3 (by omega) _ _).mono (by omega), (ft_set (w := w) e4 (by omega) _ _).mono (by omega), below_set2 _ _ _ _ U4.bel (by omega) (Nat.le_refl _)⟩

set_option maxHeartbeats 2000000 in
/-- A monad's answer is this one. -/
theorem does_any (p : Int) (so ao : Option Addr) (sn sc an ac : Nat) (yo bo : Option Addr) (tn tc bn bc : Nat) (S A : List Int) (w : World) (ht : Rd w yo tn S) (hb : Rd w bo bn A)
    (h1 : ∀ V, Below w.heap.size w V → Calls Tryz.prog 10 #[.int .i64 p, .agg #[.slice so sn sc, .slice ao an ac]] V fun e w' => Ans V V.heap.size S A 0 e w') :
    Calls Tryz.prog 13 #[.int .i64 p, .agg #[.slice so sn sc, .slice ao an ac], .agg #[.slice yo tn tc, .slice bo bn bc]] w fun e w' => e = .returned (.bool true) ∧ Below w.heap.size w w' := by
  have k0 := box_below w (.cells #[.slice so sn sc, .slice ao an ac] 25)
  have k1 := box_below (w.alloc (.cells #[.slice so sn sc, .slice ao an ac] 25)) (.cells #[.slice yo tn tc, .slice bo bn bc] 25)
  have k2 := k0.trans (k1.mono k0.size)
  have b2 := allocNew (w.alloc (.cells #[.slice so sn sc, .slice ao an ac] 25)) (.cells #[.slice yo tn tc, .slice bo bn bc] 25)
  simp only [World.size_alloc] at b2
  have cR := h1 _ k2
  have cE := fun V o1 n1 c1 o2 n2 c2 (h1 : Rd V o1 n1 S) (h2 : Rd V o2 n2 A) (k : Below w.heap.size w V) => eq4_any o1 o2 yo bo n1 c1 n2 c2 tn tc bn bc S A S A V h1 h2 (ht.below k (Nat.le_refl _)) (hb.below k (Nat.le_refl _))
  rw [show eqA S A S A = true from eqA_refl S A] at cE
  go_enter Tryz.func13, Tryz.ntmps13
  go_wp2_with (first
    | (go_at_call 10; (with_reducible refine cR.mono ?_); rintro e w5 ⟨o1, n1, c1, o2, n2, c2, rfl, f1, f2, k5⟩; have K5 : Below w.heap.size w w5 := k2.trans (k5.mono k2.size); have T5 := (k5.block (w.heap.size + 1) (by simp)).trans b2; have kb := box_below w5 (.cells #[.slice o1 n1 c1, .slice o2 n2 c2] 25); have K6 := K5.trans (kb.mono K5.size); have T6 := (kb.block _ (Array.getElem?_eq_some_iff.1 T5).1).trans T5; obtain ⟨y0, y1, _, _⟩ := box2 T6)
    | (go_at_call 12; (with_reducible refine (cE _ o1 n1 c1 o2 n2 c2 (f1.rd.below kb (Nat.le_refl _)) (f2.rd.below kb (Nat.le_refl _)) K6).mono ?_); rintro e w7 ⟨rfl, k7⟩))
  go_ret
  exact ⟨rfl, K6.trans (k7.mono K6.size)⟩
end Go.Proofs.YtpfdiammgdnhmaaGreat


namespace Go.Proofs.YtpfdiammgdnhmaaGreat

open Go.RowKit

set_option linter.unusedVariables false

theorem nth_over {l : List Int} {k : Nat} (h : l.length ≤ k) : nth l k = 0 := by
  unfold nth; rw [List.getD_eq_getElem?_getD, List.getElem?_eq_none h]; rfl
theorem atoms_len {z : Int} {r at' : List Int} (h : mayF (z :: r) = 0) (hl : (at'.length : Int) = pr (z :: r)) : at'.length = z.toNat * (pr r).toNat := by
  have hz := (mayF_zero h).1
  have h0 : 0 ≤ z := hz 0 (by simp)
  have hr : ∀ k, k < r.length → 0 ≤ nth r k := fun k hk => hz (k + 1) (by simpa using hk)
  have hp := pr_nonneg hr
  rw [pr_cons] at hl
  have : ((z.toNat * (pr r).toNat : Nat) : Int) = z * pr r := by rw [Int.natCast_mul, Int.toNat_of_nonneg h0, Int.toNat_of_nonneg hp]
  omega
theorem tkX_len {z : Int} {r at' : List Int} (h : mayF (z :: r) = 0) (n : Int) : (gth at' (tkX (z :: r) n)).length = szN n * (pr r).toNat := by
  have hz := (mayF_zero h).1
  have hr : ∀ k, k < r.length → 0 ≤ nth r k := fun k hk => hz (k + 1) (by simpa using hk)
  rw [tkX_cons, gth_first at' _ hr rfl, rows_len]; rfl
/-- What stands at a place of what is taken. -/
theorem over_nth {z : Int} {r at' : List Int} (h : mayF (z :: r) = 0) (hl : (at'.length : Int) = pr (z :: r)) {n : Int} (hn : z.toNat ≤ szN n) {q : Nat} (hq : q < (gth at' (tkX (z :: r) n)).length) :
    nth (gth at' (tkX (z :: r) n)) q = if n < 0 then (if szN n * (pr r).toNat - at'.length ≤ q then nth at' (q - (szN n * (pr r).toNat - at'.length)) else 0) else nth at' q := by
  have hz := (mayF_zero h).1
  have hr : ∀ k, k < r.length → 0 ≤ nth r k := fun k hk => hz (k + 1) (by simpa using hk)
  have e := atoms_len h hl
  rw [tkX_len h] at hq
  obtain ⟨R, hR⟩ : ∃ R, (pr r).toNat = R := ⟨_, rfl⟩
  have R0 : 0 < R := by
    rcases Nat.eq_zero_or_pos R with c | c
    · rw [hR, c, Nat.mul_zero] at hq; omega
    · exact c
  have hi : q / R < szN n := by rw [hR] at hq; exact Nat.div_lt_of_lt_mul (by rw [Nat.mul_comm]; exact hq)
  have hj := Nat.mod_lt q R0
  have hqe : q / R * R + q % R = q := by rw [Nat.mul_comm]; exact Nat.div_add_mod q R
  rw [tkX_cons, gth_first at' _ hr rfl]
  have := nth_rows (n := szN n) (R := R) (F := fun i j => if (taA ⟨z.toNat, z.toNat, (pr r).toNat, fun i => (i : Int)⟩ n).f i < 0 ∨ (z.toNat : Int) ≤ (taA ⟨z.toNat, z.toNat, (pr r).toNat, fun i => (i : Int)⟩ n).f i then 0 else nth at' (((taA ⟨z.toNat, z.toNat, (pr r).toNat, fun i => (i : Int)⟩ n).f i).toNat * R + j)) hi hj
  rw [hqe] at this
  rw [hR] at this e ⊢
  refine this.trans ?_
  clear this
  generalize q / R = u at *
  generalize q % R = v at *
  by_cases c : n < 0
  · rw [if_pos c]
    have ef : (taA ⟨z.toNat, z.toNat, R, fun i => (i : Int)⟩ n).f u = (u : Int) + ((z.toNat : Int) - (szN n : Int)) := by
      unfold taA; dsimp only; rw [if_pos c]
    rw [ef, e, ← Nat.sub_mul]
    obtain ⟨d, hd⟩ : ∃ d, szN n - z.toNat = d := ⟨_, rfl⟩
    rw [hd]
    by_cases c2 : d ≤ u
    · have m := Nat.mul_le_mul_right R c2
      rw [if_neg (by omega), if_pos (by omega)]
      congr 1
      rw [show ((u : Int) + ((z.toNat : Int) - (szN n : Int))).toNat = u - d by omega, Nat.sub_mul]
      omega
    · have m := Nat.mul_le_mul_right R (show u + 1 ≤ d by omega)
      rw [Nat.add_mul, Nat.one_mul] at m
      rw [if_pos (by omega), if_neg (by omega)]
  · rw [if_neg c]
    have ef : (taA ⟨z.toNat, z.toNat, R, fun i => (i : Int)⟩ n).f u = (u : Int) := by
      unfold taA; dsimp only; rw [if_neg c]
    simp only [ef]
    by_cases c2 : z.toNat ≤ u
    · have m := Nat.mul_le_mul_right R c2
      rw [if_pos (by omega), nth_over (by omega)]
    · rw [if_neg (by omega), Int.toNat_natCast, hqe]
/-- Less than 0 atoms are never left; the parts' error is the size's. -/
theorem drX_none {z : Int} {r at' : List Int} (h : mayF (z :: r) = 0) {n : Int} (hn : z.toNat ≤ szN n) : gth at' (drX (z :: r) n) = [] := by
  have e := gth_len at' (drX (z :: r) n)
  rw [lens_drX h, pr_cons, show z.toNat - min (szN n) z.toNat = 0 by omega] at e
  rw [show ((0 : Nat) : Int) * pr r = 0 from Int.zero_mul _] at e
  exact List.length_eq_zero_iff.1 (by omega)
theorem mayF_17 {z k : Int} {r : List Int} (h : mayF (z :: r) = 0) (h0 : 0 ≤ k) : mayF (k :: r) = 0 ∨ mayF (k :: r) = 17 := by
  obtain ⟨h1, h2, h3⟩ := mayF_zero h
  by_cases c : pz (k :: r) ≤ 4096
  · left
    refine mayF_ok (fun j hj => ?_) (by simpa using h2) c
    cases j with
    | zero => exact h0
    | succ j => exact h1 (j + 1) (by simpa using hj)
  · right
    have hany : ((k :: r).any fun z => decide (z < 0)) = false := by
      rw [List.any_eq_false]
      intro x hx
      have hall : ∀ j, j < (k :: r).length → 0 ≤ nth (k :: r) j := fun j hj => by
        cases j with
        | zero => exact h0
        | succ j => exact h1 (j + 1) (by simpa using hj)
      obtain ⟨j, hj, rfl⟩ := List.mem_iff_getElem.1 hx
      have := hall j hj
      rw [show nth (k :: r) j = (k :: r)[j] by unfold nth; rw [List.getD_eq_getElem?_getD, List.getElem?_eq_getElem hj]; rfl] at this
      simp; omega
    unfold mayF
    rw [hany, if_neg (by simp)]
    split
    · rfl
    · rw [if_pos (by omega)]
end Go.Proofs.YtpfdiammgdnhmaaGreat



namespace Go.Proofs.YtpfdiammgdnhmaaGreat

open Go.RowKit

set_option linter.unusedVariables false

theorem ends_num {z : Int} {r at' : List Int} (my : mayA (z :: r) at' = 0) (h1 : 1 ≤ z) :
    itm (z :: r) at' = z ∧ (itmE (z :: r) at' 0 = 0 ∧ itmS (z :: r) at' 0 = r ∧ itmA (z :: r) at' 0 = at'.take (pr r).toNat) ∧ (itmE (z :: r) at' (-1) = 0 ∧ itmS (z :: r) at' (-1) = r ∧ itmA (z :: r) at' (-1) = at'.drop ((z.toNat - 1) * (pr r).toNat)) ∧ (prtE (z :: r) at' 1 (z - 1) = 0 ∧ prtS (z :: r) at' 1 (z - 1) = (z - 1) :: r ∧ prtA (z :: r) at' 1 (z - 1) = at'.drop (pr r).toNat) ∧ (prtE (z :: r) at' 0 (z - 1) = 0 ∧ prtS (z :: r) at' 0 (z - 1) = (z - 1) :: r ∧ prtA (z :: r) at' 0 (z - 1) = at'.take ((z.toNat - 1) * (pr r).toNat)) := by
  obtain ⟨m1, m2⟩ := mayA_zero my
  have e := atoms_len m1 m2
  have ht : tal (z :: r) = z := by unfold tal; rw [if_neg (by simp)]; rfl
  obtain ⟨R, hR⟩ : ∃ R, (pr r).toNat = R := ⟨_, rfl⟩
  have hz : itmZ (z :: r) at' = R := by unfold itmZ; rw [ht, e, hR]; exact Nat.mul_div_cancel_left _ (by omega)
  have hi : isz (z :: r) = R := hR
  have eS := Nat.succ_mul (z.toNat - 1) R
  rw [show (z.toNat - 1).succ = z.toNat by omega] at eS
  rw [hR] at e ⊢
  have a0 : itmE (z :: r) at' 0 = 0 := by unfold itmE; rw [if_neg (by simpa using my), ht, if_neg (by omega)]
  have a1 : itmE (z :: r) at' (-1) = 0 := by unfold itmE; rw [if_neg (by simpa using my), ht, if_neg (by omega)]
  have a2 : prtE (z :: r) at' 1 (z - 1) = 0 := by unfold prtE; rw [if_neg (by simpa using my), ht, if_neg (by omega)]
  have a3 : prtE (z :: r) at' 0 (z - 1) = 0 := by unfold prtE; rw [if_neg (by simpa using my), ht, if_neg (by omega)]
  refine ⟨by unfold itm; rw [if_pos my, ht], ⟨a0, by unfold itmS; rw [if_pos a0]; rfl, ?_⟩, ⟨a1, by unfold itmS; rw [if_pos a1]; rfl, ?_⟩, ⟨a2, by unfold prtS; rw [if_pos a2]; rfl, ?_⟩, ⟨a3, by unfold prtS; rw [if_pos a3]; rfl, ?_⟩⟩
  · unfold itmA itmJ; rw [if_pos a0, hz, if_neg (by omega)]; simp
  · unfold itmA itmJ; rw [if_pos a1, hz, if_pos (by omega), ht, show (-1 + z).toNat = z.toNat - 1 by omega]
    exact List.take_of_length_le (by rw [List.length_drop]; omega)
  · unfold prtA; rw [if_pos a2, hi, show (1 : Int).toNat = 1 from rfl, Nat.one_mul, show (z - 1).toNat = z.toNat - 1 by omega]
    exact List.take_of_length_le (by rw [List.length_drop]; omega)
  · unfold prtA; rw [if_pos a3, hi, show (0 : Int).toNat = 0 from rfl, Nat.zero_mul, List.drop_zero, show (z - 1).toNat = z.toNat - 1 by omega]
theorem ends_may {z : Int} {r at' : List Int} (my : mayA (z :: r) at' = 0) (h1 : 1 ≤ z) :
    mayA r (at'.take (pr r).toNat) = 0 ∧ mayA (1 :: r) (at'.take (pr r).toNat) = 0 ∧ mayA r (at'.drop ((z.toNat - 1) * (pr r).toNat)) = 0 ∧ mayA (1 :: r) (at'.drop ((z.toNat - 1) * (pr r).toNat)) = 0 ∧ mayA ((z - 1) :: r) (at'.drop (pr r).toNat) = 0 ∧ mayA ((z - 1) :: r) (at'.take ((z.toNat - 1) * (pr r).toNat)) = 0 := by
  obtain ⟨m1, m2⟩ := mayA_zero my
  have e := atoms_len m1 m2
  have hz := (mayF_zero m1).1
  have hr : ∀ k, k < r.length → 0 ≤ nth r k := fun k hk => hz (k + 1) (by simpa using hk)
  have hp := pr_nonneg hr
  have f0 := mayF_tail m1
  have f1 : mayF (1 :: r) = 0 := mayF_less m1 (by omega) (by omega)
  have f2 : mayF ((z - 1) :: r) = 0 := mayF_less m1 (by omega) (by omega)
  have eS := Nat.succ_mul (z.toNat - 1) (pr r).toNat
  rw [show (z.toNat - 1).succ = z.toNat by omega] at eS
  have p2 : (z - 1) * pr r = (((z.toNat - 1) * (pr r).toNat : Nat) : Int) := by
    rw [Int.natCast_mul, Int.toNat_of_nonneg hp, show ((z.toNat - 1 : Nat) : Int) = z - 1 by omega]
  refine ⟨mayA_ok f0 ?_, mayA_ok f1 ?_, mayA_ok f0 ?_, mayA_ok f1 ?_, mayA_ok f2 ?_, mayA_ok f2 ?_⟩
  · rw [List.length_take]; omega
  · rw [List.length_take, pr_cons]; omega
  · rw [List.length_drop]; omega
  · rw [List.length_drop, pr_cons]; omega
  · rw [List.length_drop, pr_cons, p2]; omega
  · rw [List.length_take, pr_cons, p2]; omega
theorem ends_join {z : Int} {r at' : List Int} (my : mayA (z :: r) at' = 0) (h1 : 1 ≤ z) : at'.take (pr r).toNat ++ at'.drop (pr r).toNat = at' ∧ at'.take ((z.toNat - 1) * (pr r).toNat) ++ at'.drop ((z.toNat - 1) * (pr r).toNat) = at' :=
  ⟨List.take_append_drop _ _, List.take_append_drop _ _⟩

theorem monad_item_ok (o1 o2 : Option Addr) (n1 c1 n2 c2 : Nat) (S A : List Int) (V : World) (r1 : Rd V o1 n1 S) (s1 : Sl o1 n1 c1) (r2 : Rd V o2 n2 A) (s2 : Sl o2 n2 c2) (my : mayA S A = 0) (h8 : S.length < 8) :
    Calls Tryz.prog 10 #[.int .i64 26, .agg #[.slice o1 n1 c1, .slice o2 n2 c2]] V fun e w' => Ans V V.heap.size (1 :: S) A 0 e w' :=
  monad_item o1 o2 n1 c1 n2 c2 S A (1 :: S) A 0 V r1 r2 my (fun V2 k2 => itemize_any o1 o2 n1 c1 n2 c2 S A V2 (r1.below k2 (Nat.le_refl _)) s1 (r2.below k2 (Nat.le_refl _)) s2 (by have := r1.len; omega))
theorem rank8 {z : Int} {r at' : List Int} (my : mayA (z :: r) at' = 0) : r.length < 8 := by
  have := (mayF_zero (mayA_zero my).1).2.1
  simp at this; omega
theorem head_any (so ao : Option Addr) (sn sc an ac : Nat) (z : Int) (r at' : List Int) (w : World) (hs : Rd w so sn (z :: r)) (ss : Sl so sn sc) (ha : Rd w ao an at') (sa : Sl ao an ac) (my : mayA (z :: r) at' = 0) (h1 : 1 ≤ z) :
    Calls Tryz.prog 11 #[.int .i64 26, .int .i64 28, .agg #[.slice so sn sc, .slice ao an ac]] w fun e w' => ∃ o3 n3 c3 o4 n4 c4, e = .returned (.tuple #[.agg #[.slice o3 n3 c3, .slice o4 n4 c4], .bool true]) ∧ Ft 3 w' w.heap.size o3 n3 c3 (1 :: r) ∧ Ft 2 w' w.heap.size o4 n4 c4 (at'.take (pr r).toNat) ∧ Below w.heap.size w w' := by
  obtain ⟨i0, ⟨a1, a2, a3⟩, _⟩ := ends_num my h1
  refine then_any 26 28 so ao sn sc an ac r (at'.take (pr r).toNat) _ _ w (fun V k => monad_take so ao sn sc an ac (z :: r) at' _ _ 0 V (hs.below k (Nat.le_refl _)) (ha.below k (Nat.le_refl _)) my (fun V2 k2 => ?_)) (fun V o1 n1 c1 o2 n2 c2 r1 s1 r2 s2 => monad_item_ok o1 o2 n1 c1 n2 c2 _ _ V r1 s1 r2 s2 (ends_may my h1).1 (rank8 my))
  have := first_any so ao sn sc an ac (z :: r) at' V2 ((hs.below k (Nat.le_refl _)).below k2 (Nat.le_refl _)) ss ((ha.below k (Nat.le_refl _)).below k2 (Nat.le_refl _)) sa (by rw [i0]; omega)
  rw [a1, a2, a3] at this
  exact this
theorem tail_any (so ao : Option Addr) (sn sc an ac : Nat) (z : Int) (r at' : List Int) (w : World) (hs : Rd w so sn (z :: r)) (ss : Sl so sn sc) (ha : Rd w ao an at') (sa : Sl ao an ac) (my : mayA (z :: r) at' = 0) (h1 : 1 ≤ z) :
    Calls Tryz.prog 11 #[.int .i64 26, .int .i64 30, .agg #[.slice so sn sc, .slice ao an ac]] w fun e w' => ∃ o3 n3 c3 o4 n4 c4, e = .returned (.tuple #[.agg #[.slice o3 n3 c3, .slice o4 n4 c4], .bool true]) ∧ Ft 3 w' w.heap.size o3 n3 c3 (1 :: r) ∧ Ft 2 w' w.heap.size o4 n4 c4 (at'.drop ((z.toNat - 1) * (pr r).toNat)) ∧ Below w.heap.size w w' := by
  obtain ⟨i0, _, ⟨a1, a2, a3⟩, _⟩ := ends_num my h1
  refine then_any 26 30 so ao sn sc an ac r (at'.drop ((z.toNat - 1) * (pr r).toNat)) _ _ w (fun V k => monad_tail so ao sn sc an ac (z :: r) at' _ _ 0 V (hs.below k (Nat.le_refl _)) (ha.below k (Nat.le_refl _)) my (fun V2 k2 => ?_)) (fun V o1 n1 c1 o2 n2 c2 r1 s1 r2 s2 => monad_item_ok o1 o2 n1 c1 n2 c2 _ _ V r1 s1 r2 s2 (ends_may my h1).2.2.1 (rank8 my))
  have := last_any so ao sn sc an ac (z :: r) at' V2 ((hs.below k (Nat.le_refl _)).below k2 (Nat.le_refl _)) ss ((ha.below k (Nat.le_refl _)).below k2 (Nat.le_refl _)) sa (by rw [i0]; omega)
  rw [a1, a2, a3] at this
  exact this
theorem rest_any (so ao : Option Addr) (sn sc an ac : Nat) (z : Int) (r at' : List Int) (w : World) (hs : Rd w so sn (z :: r)) (ss : Sl so sn sc) (ha : Rd w ao an at') (sa : Sl ao an ac) (my : mayA (z :: r) at' = 0) (h1 : 1 ≤ z) (h2 : z ≤ 4096) :
    Calls Tryz.prog 10 #[.int .i64 29, .agg #[.slice so sn sc, .slice ao an ac]] w fun e w' => Ans w w.heap.size ((z - 1) :: r) (at'.drop (pr r).toNat) 0 e w' := by
  obtain ⟨i0, _, _, ⟨a1, a2, a3⟩, _⟩ := ends_num my h1
  refine monad_drop so ao sn sc an ac (z :: r) at' _ _ 0 w hs ha my (fun V k => ?_)
  have := behead_any so ao sn sc an ac (z :: r) at' V (hs.below k (Nat.le_refl _)) ss (ha.below k (Nat.le_refl _)) sa z i0 h1 h2
  rw [a1, a2, a3] at this
  exact this
theorem front_any (so ao : Option Addr) (sn sc an ac : Nat) (z : Int) (r at' : List Int) (w : World) (hs : Rd w so sn (z :: r)) (ss : Sl so sn sc) (ha : Rd w ao an at') (sa : Sl ao an ac) (my : mayA (z :: r) at' = 0) (h1 : 1 ≤ z) (h2 : z ≤ 4096) :
    Calls Tryz.prog 10 #[.int .i64 31, .agg #[.slice so sn sc, .slice ao an ac]] w fun e w' => Ans w w.heap.size ((z - 1) :: r) (at'.take ((z.toNat - 1) * (pr r).toNat)) 0 e w' := by
  obtain ⟨i0, _, _, _, ⟨a1, a2, a3⟩⟩ := ends_num my h1
  refine monad_curt so ao sn sc an ac (z :: r) at' _ _ 0 w hs ha my (fun V k => ?_)
  have := curtail_any so ao sn sc an ac (z :: r) at' V (hs.below k (Nat.le_refl _)) ss (ha.below k (Nat.le_refl _)) sa z i0 h1 h2
  rw [a1, a2, a3] at this
  exact this
theorem tally_does (so ao xo : Option Addr) (sn sc an ac xc : Nat) (z : Int) (r at' : List Int) (w : World) (hs : Rd w so sn (z :: r)) (ha : Rd w ao an at') (my : mayA (z :: r) at' = 0) (h1 : 1 ≤ z) (h2 : z ≤ 4096) (hx : Rd w xo 1 [z]) :
    Calls Tryz.prog 13 #[.int .i64 22, .agg #[.slice so sn sc, .slice ao an ac], .agg #[.slice none 0 0, .slice xo 1 xc]] w fun e w' => e = .returned (.bool true) ∧ Below w.heap.size w w' :=
  does_any 22 so ao sn sc an ac none xo 0 0 1 xc [] [z] w (Rd.nil w) hx (fun V k => monad_tally so ao sn sc an ac (z :: r) at' [] [z] 0 V (hs.below k (Nat.le_refl _)) (ha.below k (Nat.le_refl _)) my (fun V2 k2 => countItems_any so ao sn sc an ac (z :: r) at' V2 ((hs.below k (Nat.le_refl _)).below k2 (Nat.le_refl _)) ((ha.below k (Nat.le_refl _)).below k2 (Nat.le_refl _)) z (ends_num my h1).1 (by omega) h2))
end Go.Proofs.YtpfdiammgdnhmaaGreat
