
/- Contract of mold.Dyad of op 33: the axes of the right are moved, or an error is told. -/

import Derived.Test.YtldhochafkcpiaaGreatAR3
import Derived.Test.YtldhochafkcpiaaGreatAR4
import Derived.Test.YtldhochafkcpiaaGreatPT
import Derived.Test.YtldhochafkcpiaaGreatMX
import Derived.Test.YtldhochafkcpiaaGreatMJ





namespace Go.Proofs.YtldhochafkcpiaaGreat

open Go.RowKit

set_option linter.unusedVariables false

theorem pz_perm {l l' : List Int} (h : l.Perm l') : pz l = pz l' := by
  induction h with
  | nil => rfl
  | cons z _ ih => rw [pz_cons, pz_cons, ih]
  | swap a b l => rw [pz_cons, pz_cons, pz_cons, pz_cons, ← Int.mul_assoc, ← Int.mul_assoc, Int.mul_comm (if b = 0 then 1 else b)]
  | trans _ _ h1 h2 => exact h1.trans h2
theorem pr_perm {l l' : List Int} (h : l.Perm l') : pr l = pr l' := by
  induction h with
  | nil => rfl
  | cons z _ ih => rw [pr_cons, pr_cons, ih]
  | swap a b l => rw [pr_cons, pr_cons, pr_cons, pr_cons, ← Int.mul_assoc, ← Int.mul_assoc, Int.mul_comm b]
  | trans _ _ h1 h2 => exact h1.trans h2
theorem pi_shape {sy : List Int} {pi : List Nat} (hp : pi.Perm (List.range sy.length)) : (pi.map (nth sy)).Perm sy := by
  have e := hp.map (nth sy)
  rwa [show (List.range sy.length).map (nth sy) = sy from getD_range sy 0] at e
theorem mayF_pi {sy : List Int} {pi : List Nat} (h : mayF sy = 0) (hp : pi.Perm (List.range sy.length)) : mayF (pi.map (nth sy)) = 0 := by
  obtain ⟨h1, h2, h3⟩ := mayF_zero h
  have pl : pi.length = sy.length := by simpa using hp.length_eq
  exact mayF_ok (nonneg_pi h1 fun i hi => List.mem_range.1 (hp.mem_iff.1 hi)) (by rw [List.length_map]; omega) (by rw [pz_perm (pi_shape hp)]; exact h3)
/-- Every axis is there and is named once, or a first one is not. -/
theorem gd_or (n : Nat) (xs : List Int) : ∀ m, m ≤ xs.length → (∀ k, k < m → -(n : Int) ≤ nth xs k ∧ nth xs k < (n : Int) ∧ (sen n xs k).contains (nrm n (nth xs k)) = false) ∨
    ∃ j, j < m ∧ (∀ k, k < j → -(n : Int) ≤ nth xs k ∧ nth xs k < (n : Int) ∧ (sen n xs k).contains (nrm n (nth xs k)) = false) ∧ ((nth xs j < -(n : Int) ∨ (n : Int) ≤ nth xs j) ∨ (-(n : Int) ≤ nth xs j ∧ nth xs j < (n : Int) ∧ (sen n xs j).contains (nrm n (nth xs j)) = true))
  | 0, _ => .inl fun k hk => by omega
  | m + 1, hm => by
    rcases gd_or n xs m (by omega) with h | ⟨j, hj, a, b⟩
    · by_cases h1 : nth xs m < -(n : Int) ∨ (n : Int) ≤ nth xs m
      · exact .inr ⟨m, by omega, h, .inl h1⟩
      · cases h2 : (sen n xs m).contains (nrm n (nth xs m))
        · refine .inl fun k hk => ?_
          by_cases e : k = m
          · subst e; exact ⟨by omega, by omega, h2⟩
          · exact h k (by omega)
        · exact .inr ⟨m, by omega, h, .inr ⟨by omega, by omega, h2⟩⟩
    · exact .inr ⟨j, by omega, a, b⟩
theorem gd_le {n : Nat} {xs : List Int} {m : Nat} (hm : m ≤ xs.length) (h : ∀ k, k < m → -(n : Int) ≤ nth xs k ∧ nth xs k < (n : Int) ∧ (sen n xs k).contains (nrm n (nth xs k)) = false) : m ≤ n := by
  have e : (xs.take m).length = m := by rw [List.length_take]; omega
  have G : Gd n (xs.take m) := fun k hk => by
    rw [e] at hk
    have es : sen n (xs.take m) k = sen n xs k := by unfold sen; rw [List.take_take, Nat.min_eq_left (by omega)]
    rw [nth_take hk, es]
    exact h k hk
  have := G.le
  omega

/-- What op 33 answers. -/
def ErA (n : Nat) (xs : List Int) (E : Int) (S A sy ay : List Int) : Prop := (Gd n xs ∧ E = 0 ∧ S = (prm n xs).map (nth sy) ∧ A = gth ay ((prm n xs).map (nax (axsOf sy)))) ∨ (¬ Gd n xs ∧ E ≠ 0 ∧ S = [] ∧ A = [])
set_option maxHeartbeats 1000000 in
theorem arrange_all (so : Option Addr) (sn : Nat) (xs sy ay : List Int) (my : mayA sy ay = 0) (hsl : sy.length = sn) : ∃ E S A, ErA sn xs E S A sy ay ∧ ∀ (xso xo ao : Option Addr) (xsn xsc xn xc sc an ac : Nat) (w : World), Rd w xo xn xs → Rd w so sn sy → Rd w ao an ay →
    Calls Tryz.prog 31 #[.agg #[.slice xso xsn xsc, .slice xo xn xc], .agg #[.slice so sn sc, .slice ao an ac]] w fun e w' => Ans w w.heap.size S A E e w' := by
  obtain ⟨m1, m2⟩ := mayA_zero my
  obtain ⟨z1, z2, z3⟩ := mayF_zero m1
  subst hsl
  rcases gd_or sy.length xs xs.length (Nat.le_refl _) with h | ⟨j, hj, a, b⟩
  · have G : Gd sy.length xs := h
    have hp := G.perm
    have pm : ∀ i, i ∈ prm sy.length xs → i < sy.length := fun i hi => List.mem_range.1 (hp.mem_iff.1 hi)
    have el := lens_axes z1 pm
    have mf := mayF_pi m1 hp
    refine ⟨0, _, _, .inl ⟨G, rfl, rfl, rfl⟩, fun xso xo ao xsn xsc xn xc sc an ac w hx hs ha => ?_⟩
    have c := arrange_ok xso xo so ao xsn xsc xn xc sy.length sc an ac xs sy ay w hx hs ha z2 (fun k hk => nth_small m1 hk) (fun k hk => drop_small m1 k) G (by rw [← hx.len]; exact G.le)
      (fun k hk => by
        have hk' : k < (prm sy.length xs).length := hk
        have e : nax ((prm sy.length xs).map (nax (axsOf sy))) k = nax (axsOf sy) ((prm sy.length xs).getD k 0) := by
          unfold nax
          rw [List.getD_eq_getElem?_getD, List.getElem?_map, List.getElem?_eq_getElem hk', List.getD_eq_getElem?_getD (l := prm sy.length xs), List.getElem?_eq_getElem hk']; rfl
        have hq := pm _ (getD_mem hk')
        have e2 : ((nax (axsOf sy) ((prm sy.length xs).getD k 0)).len : Int) = nth sy ((prm sy.length xs).getD k 0) := by
          have := congrArg (fun l => nth l 0) (lens_axes (pi := [(prm sy.length xs).getD k 0]) z1 (fun i hi => by rw [List.mem_singleton.1 hi]; exact hq))
          exact this
        have := nth_small m1 hq
        rw [e]; omega)
      (fun _ => pls_axes_in z1 hp (by rw [← ha.len]; exact m2))
    rw [el] at c
    have ef : filS ((prm sy.length xs).map (nth sy)) = (prm sy.length xs).map (nth sy) := if_pos mf
    have eg : gthS ay ((prm sy.length xs).map (nax (axsOf sy))) = gth ay ((prm sy.length xs).map (nax (axsOf sy))) := if_pos (by rw [el]; exact mf)
    rw [ef, eg, mf] at c
    exact c
  · have nG : ¬ Gd sy.length xs := fun G => by
      obtain ⟨g1, g2, g3⟩ := G j hj
      rcases b with b | ⟨_, _, b⟩
      · omega
      · rw [b] at g3; cases g3
    have j8 := gd_le (by omega) a
    rcases b with b | ⟨b1, b2, b3⟩
    · refine ⟨13, [], [], .inr ⟨nG, by omega, rfl, rfl⟩, fun xso xo ao xsn xsc xn xc sc an ac w hx hs ha => ?_⟩
      refine (arrange_out xso xo so ao xsn xsc xn xc sy.length sc an ac xs sy ay w hx hs ha z2 (fun k hk => nth_small m1 hk) (fun k hk => drop_small m1 k) j (by rw [← hx.len]; exact hj) (by omega) a b).mono ?_
      rintro e w' ⟨rfl, k⟩
      exact ⟨none, 0, 0, none, 0, 0, rfl, Ft.nil _ _ _, Ft.nil _ _ _, k⟩
    · refine ⟨10, [], [], .inr ⟨nG, by omega, rfl, rfl⟩, fun xso xo ao xsn xsc xn xc sc an ac w hx hs ha => ?_⟩
      refine (arrange_twice xso xo so ao xsn xsc xn xc sy.length sc an ac xs sy ay w hx hs ha z2 (fun k hk => nth_small m1 hk) (fun k hk => drop_small m1 k) j (by rw [← hx.len]; exact hj) (by omega) a b1 b2 b3).mono ?_
      rintro e w' ⟨rfl, k⟩
      exact ⟨none, 0, 0, none, 0, 0, rfl, Ft.nil _ _ _, Ft.nil _ _ _, k⟩

set_option maxHeartbeats 2000000 in
theorem dyad_arr (xso xo so ao : Option Addr) (xsn xsc xn xc sn sc an ac : Nat) (sx ax sy ay S A : List Int) (E : Int) (w : World) (hsx : Rd w xso xsn sx) (hax : Rd w xo xn ax) (hsy : Rd w so sn sy) (hay : Rd w ao an ay) (mx : mayA sx ax = 0) (my : mayA sy ay = 0) (hxr : xsn ≤ 1)
    (hc : ∀ V, Below w.heap.size w V → Calls Tryz.prog 31 #[.agg #[.slice xso xsn xsc, .slice xo xn xc], .agg #[.slice so sn sc, .slice ao an ac]] V fun e w' => Ans V V.heap.size S A E e w') :
    Calls Tryz.prog 5 #[.int .i64 33, .agg #[.slice xso xsn xsc, .slice xo xn xc], .agg #[.slice so sn sc, .slice ao an ac]] w fun e w' => Ans w w.heap.size S A E e w' := by
  have D0 := dw_start w xso xsn xsc xo xn xc so sn sc ao an ac
  have cM1 := mayA_any xso xo xsn xsc xn xc sx ax _ (hsx.below D0.bel (Nat.le_refl _)) (hax.below D0.bel (Nat.le_refl _))
  have cM2 := fun V (D : Dw w V xso xsn xsc xo xn xc so sn sc ao an ac) => mayA_any so ao sn sc an ac sy ay V (hsy.below D.bel (Nat.le_refl _)) (hay.below D.bel (Nat.le_refl _))
  rw [mx] at cM1
  rw [my] at cM2
  have cD := fun V => dyadOf_yes 33 7 V (by omega) rfl (by intro j hj; match j, hj with | 0, _ => exact (by decide : dOp 0 ≠ 33) | 1, _ => exact (by decide : dOp 1 ≠ 33) | 2, _ => exact (by decide : dOp 2 ≠ 33) | 3, _ => exact (by decide : dOp 3 ≠ 33) | 4, _ => exact (by decide : dOp 4 ≠ 33) | 5, _ => exact (by decide : dOp 5 ≠ 33) | 6, _ => exact (by decide : dOp 6 ≠ 33))
  rw [show dFnN 7 = 31 from rfl, show dNum 7 = true from rfl] at cD
  have t0 : decide (1 < xsn) = false := by simp; omega
  obtain ⟨x0, x1, x2, x3, _⟩ := D0.all
  clear mx my
  go_enter Tryz.func5, Tryz.ntmps5
  go_wp2_with (first
    | (go_at_call 16; (with_reducible refine cM1.mono ?_); rintro e w1 ⟨rfl, k1⟩; have D1 := D0.below k1 (Nat.le_refl _); obtain ⟨y0, y1, y2, y3, _⟩ := D1.all)
    | (go_at_call 16; (with_reducible refine (cM2 w1 D1).mono ?_); rintro e w2 ⟨rfl, k2⟩; have D2 := D1.below k2 (Nat.le_refl _))
    | (go_at_call 17; (with_reducible refine (cD w2).mono ?_); rintro e w3 ⟨rfl, k3⟩; have D3 := D2.below k3 (Nat.le_refl _); have D4 := D3.below (box_below w3 (.cells #[.int .i64 33, .bool true, .func (.func 31) #[] #[]] 45)) (Nat.le_refl _); obtain ⟨v0, v1, v2, v3, _⟩ := D4.all)
    | (go_at_call 31; (with_reducible refine (hc _ D4.bel).mono ?_); rintro e w5 ⟨o1, n1, c1, o2, n2, c2, rfl, f1, f2, k5⟩; have D5 := D4.below k5 (Nat.le_refl _); obtain ⟨u5, v5, hr5⟩ := D5.r; obtain ⟨z0, z1, z2, z3⟩ := box2 hr5))
  (try simp only [Exit.inBlock, Exit.then])
  refine bodyPost_ret (v := .tuple #[.agg #[.slice o1 n1 c1, .slice o2 n2 c2], .int .i64 E]) (by rw [results_cell_tmp rfl]; go_simp) rfl ?_
  have s3 := D3.sz
  exact ⟨o1, n1, c1, o2, n2, c2, rfl, (ft_set (w := w) f1 (by simp; omega) _ _).mono (by simp; omega), (ft_set (w := w) f2 (by simp; omega) _ _).mono (by simp; omega), below_set2 _ _ _ _ D5.bel (by omega) (Nat.le_refl _)⟩
/-- Op 33, over a list that names axes. -/
theorem dyad33_all (so : Option Addr) (sn : Nat) (xs sy ay : List Int) (my : mayA sy ay = 0) (hsl : sy.length = sn) : ∃ E S A, ErA sn xs E S A sy ay ∧ ∀ (xso xo ao : Option Addr) (xsn xsc xn xc sc an ac : Nat) (sx : List Int) (w : World), Rd w xso xsn sx → Rd w xo xn xs → Rd w so sn sy → Rd w ao an ay → mayA sx xs = 0 → xsn ≤ 1 →
    Calls Tryz.prog 5 #[.int .i64 33, .agg #[.slice xso xsn xsc, .slice xo xn xc], .agg #[.slice so sn sc, .slice ao an ac]] w fun e w' => Ans w w.heap.size S A E e w' := by
  obtain ⟨E, S, A, h, c⟩ := arrange_all so sn xs sy ay my hsl
  refine ⟨E, S, A, h, fun xso xo ao xsn xsc xn xc sc an ac sx w h1 h2 h3 h4 mx hr => ?_⟩
  exact dyad_arr xso xo so ao xsn xsc xn xc sn sc an ac sx xs sy ay S A E w h1 h2 h3 h4 mx my hr fun V k => c xso xo ao xsn xsc xn xc sc an ac V (h2.below k (Nat.le_refl _)) (h3.below k (Nat.le_refl _)) (h4.below k (Nat.le_refl _))
end Go.Proofs.YtldhochafkcpiaaGreat
