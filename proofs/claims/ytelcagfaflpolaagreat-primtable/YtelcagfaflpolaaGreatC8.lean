
/- Contracts: two lists, one behind the other, by package slices. -/

import Derived.Test.YtelcagfaflpolaaGreatC4
import Derived.Test.YtelcagfaflpolaaGreatJoin

namespace Go.Proofs.YtelcagfaflpolaaGreat

open Go.RowKit

set_option linter.unusedVariables false

/-- The cells of the first k pieces. -/
def pcs (p : Nat → Int × Int) (k : Nat) : List Value := (List.range k).flatMap fun j => [.int .i64 (p j).1, .int .i64 (p j).2]
theorem pcs_succ (p : Nat → Int × Int) (k : Nat) : pcs p (k + 1) = pcs p k ++ [.int .i64 (p k).1, .int .i64 (p k).2] := by
  unfold pcs; rw [List.range_succ, List.flatMap_append]; simp
theorem pcs_len (p : Nat → Int × Int) : ∀ k, (pcs p k).length = k * 2
  | 0 => rfl
  | k + 1 => by rw [pcs_succ, List.length_append, pcs_len p k]; simp; omega
theorem pcs_at (p : Nat → Int × Int) : ∀ k j, j < k → (pcs p k)[j * 2]? = some (.int .i64 (p j).1) ∧ (pcs p k)[j * 2 + 1]? = some (.int .i64 (p j).2)
  | 0, j, h => by omega
  | k + 1, j, h => by
    rw [pcs_succ]
    by_cases c : j < k
    · obtain ⟨h1, h2⟩ := pcs_at p k j c
      rw [List.getElem?_append_left (by rw [pcs_len]; omega), List.getElem?_append_left (by rw [pcs_len]; omega)]
      exact ⟨h1, h2⟩
    · obtain rfl : j = k := by omega
      rw [List.getElem?_append_right (by rw [pcs_len]; omega), List.getElem?_append_right (by rw [pcs_len]; omega), pcs_len]
      simp
end Go.Proofs.YtelcagfaflpolaaGreat



namespace Go.Proofs.YtelcagfaflpolaaGreat

open Go.RowKit

set_option linter.unusedVariables false

set_option maxHeartbeats 2000000 in
set_option maxRecDepth 20000 in
theorem grow_any (m : Nat) (w : World) (hm : m ≤ 10000) :
    Calls Tryz.prog 60 #[.slice none 0 0, .int .i64 (m : Nat)] w fun e w' => ∃ ao c, e = .returned (.slice ao 0 c) ∧ Ft 3 w' w.heap.size ao 0 c [] ∧ Below w.heap.size w w' := by
  by_cases h0 : m = 0
  · subst h0
    go_enter Tryz.func60, Tryz.ntmps60
    go_wp2
    go_ret
    exact ⟨_, _, rfl, Ft.nil _ _ _, Below.refl _ _⟩
  · obtain ⟨i0, hi, hz0, hz1, hz2⟩ := info_parts tyI.info
    have hr := Lib.run_append_nil_zeros (P := Tryz.prog) w 33 3 33 3 i0 (.int .i64 0) .i64 .i64 Tryz.underlying33 Tryz.underlying3 hi hz0 m (by omega) (by omega) (by omega) (by rw [hz2]; omega)
    have g1 := grownCap_ge w m 0 3
    have g2 := grownCap_le_maxLen w m 0 3 (by unfold maxLen; omega)
    generalize grownCap w m 0 3 = cap at *
    obtain ⟨cur, hcur⟩ := arr_list (Builtin.zeroCells (Value.int IntKind.i64 0).cells m ++ Builtin.zeroCells (Value.int IntKind.i64 0).cells (cap - m))
    have hl : (Builtin.zeroCells (Value.int IntKind.i64 0).cells m ++ Builtin.zeroCells (Value.int IntKind.i64 0).cells (cap - m)).size = cap := by
      simp [Builtin.zeroCells, Value.cells]
      omega
    have hn := allocNew w.drew (.cells (Builtin.zeroCells (Value.int IntKind.i64 0).cells m ++ Builtin.zeroCells (Value.int IntKind.i64 0).cells (cap - m)) 3)
    rw [hcur] at hr hn hl
    have HR : Hid ((Builtin.append_ #[33, 3] 33 #[.slice none 0 0, .int .i64 (m : Nat)]).run Tryz.prog w = .ok (.slice (some ⟨w.heap.size, 0, none⟩) m cap) (w.drew.alloc (.cells cur.toArray 3))) := hr
    have HN : Hid ((w.drew.alloc (.cells cur.toArray 3)).heap[w.heap.size]? = some (.cells cur.toArray 3 (0, 0))) := hn
    have HL : Hid (cur.length = cap) := by show _ = _; simpa using hl
    have t1 : decide ((m : Int) < 0) = false := by simp
    have t2 : decide ((0 : Int) < (m : Int)) = true := by simp; omega
    have w1 : IntKind.i64.wrap (m : Int) = (m : Int) := wrapIn _ (by omega)
    have c0 : ¬ cap = 0 := by omega
    have cm : cap ≤ 9223372036854775807 := by unfold maxLen at g2; omega
    clear hr hn hl hcur
    go_enter Tryz.func60, Tryz.ntmps60
    go_wp2_with (at_builtin; refine Lib.wpList_append_run _ rfl _ _ _ _ rfl _ _ rfl rfl _ _ HR.out ?_)
    go_ret
    exact ⟨_, _, rfl, Ft.row HN.out (Nat.le_refl _) rfl (by omega) (fun k hk => by omega) (Nat.zero_le _) g2 HL.out rfl, (Below.refl _ w).drew.alloc (by simp) _⟩

/-- Two lists, laid down as a list of lists. -/
theorem two_lists {w : World} {vb : Nat} {x y : Value} (h : w.heap[vb]? = some (.cells #[x, y] 33 (0, 0))) : w.cell? ⟨vb, 0, none⟩ = some x ∧ w.cell? ⟨vb, 1, none⟩ = some y :=
  ⟨(box2 h).1, (box2 h).2.1⟩

set_option maxHeartbeats 4000000 in
set_option maxRecDepth 20000 in
theorem concat_any (ao bo : Option Addr) (n ca m cb vb : Nat) (zs ys : List Int) (w : World) (hv : w.heap[vb]? = some (.cells #[.slice ao n ca, .slice bo m cb] 33 (0, 0))) (h : Rd w ao n zs) (hs : Sl ao n ca) (g : Rd w bo m ys) (gs : Sl bo m cb) (hn : n ≤ 5000) (hm : m ≤ 5000) :
    Calls Tryz.prog 41 #[.slice (some ⟨vb, 0, none⟩) 2 2] w fun e w' => ∃ co c, e = .returned (.slice co (n + m) c) ∧ Ft 3 w' w.heap.size co (n + m) c (zs ++ ys) ∧ Below w.heap.size w w' := by
  obtain ⟨x0, x1⟩ := two_lists hv
  have hvl := (Array.getElem?_eq_some_iff.1 hv).1
  have hg := grow_any (n + m) w (by omega)
  have hg' : Calls Tryz.prog 60 #[.slice none 0 0, .int .i64 ((n : Int) + (m : Int))] w fun e w' => ∃ ao c, e = .returned (.slice ao 0 c) ∧ Ft 3 w' w.heap.size ao 0 c [] ∧ Below w.heap.size w w' := by simpa using hg
  have w1 : IntKind.i64.wrap (n : Int) = (n : Int) := wrapIn _ (by omega)
  have w2 : IntKind.i64.wrap ((n : Int) + (m : Int)) = (n : Int) + (m : Int) := wrapIn _ (by omega)
  have t1 : decide ((n : Int) < 0) = false := by simp
  have t2 : decide ((n : Int) + (m : Int) < 0) = false := by simp; omega
  clear hg hv
  go_enter Tryz.func41, Tryz.ntmps41
  go_wp2
  refine wp_loop_rounds 3 ?_
  iterate 3 (rw [rounds_succ]; go_wp2_with (go_at_call 60; refine hg'.mono ?_; rintro e w1 ⟨o1, c1, rfl, f1, b1⟩; have y0 := (b1.cell (p := ⟨vb, 0, none⟩) hvl).trans x0; have y1 := (b1.cell (p := ⟨vb, 1, none⟩) hvl).trans x1))
  refine wp_loop_rounds 3 ?_
  iterate 3 (rw [rounds_succ]; go_wp2_with (first
    | (at_builtin; refine wpList_joinT tyI rfl _ _ rfl w.heap.size o1 ao 0 c1 n ca [] zs rfl rfl f1 (h.below b1 (Nat.le_refl _)) hs (by omega) b1.size ?_; intro co2 c2 w2 f2 b2; rw [Nat.zero_add, List.nil_append] at f2; have b12 := b1.trans b2; have u0 := (b12.cell (p := ⟨vb, 0, none⟩) hvl).trans x0; have u1 := (b12.cell (p := ⟨vb, 1, none⟩) hvl).trans x1)
    | (at_builtin; refine wpList_joinT tyI rfl _ _ rfl w.heap.size co2 bo n c2 m cb zs ys rfl rfl f2 (g.below b12 (Nat.le_refl _)) gs (by omega) b12.size ?_; intro co3 c3 w3 f3 b3; have b13 := b12.trans b3; have v0 := (b13.cell (p := ⟨vb, 0, none⟩) hvl).trans x0; have v1 := (b13.cell (p := ⟨vb, 1, none⟩) hvl).trans x1)))
  go_ret
  exact ⟨_, _, rfl, f3, b13⟩

/-- What Empty tells. -/
def empE (fs ls las : List Int) (told : Bool) : Int := if mayF fs ≠ 0 then mayF fs else if 0 < pr fs then 11 else if told then (if mayA ls las ≠ 0 then 1 else mayF (fs ++ ls)) else 0
def empS (fs ls las : List Int) (told : Bool) : List Int := if empE fs ls las told ≠ 0 then [] else if told then fs ++ ls else fs

structure Em (w W : World) (lo : Option Addr) (ln lc : Nat) (bo : Option Addr) (bn bc : Nat) (fo : Option Addr) (fn : Nat) (ls las fs : List Int) : Prop where
  it : It w W lo ln lc bo bn bc ls las
  f : Rd W fo fn fs
theorem Em.below {w W W' : World} {lo : Option Addr} {ln lc : Nat} {bo : Option Addr} {bn bc : Nat} {fo : Option Addr} {fn : Nat} {ls las fs : List Int} (h : Em w W lo ln lc bo bn bc fo fn ls las fs) (k : Below W.heap.size W W') : Em w W' lo ln lc bo bn bc fo fn ls las fs := ⟨h.it.below k, h.f.below k (Nat.le_refl _)⟩

theorem ft_set {w W : World} {e : TypeId} {B : Nat} {o : Option Addr} {n c : Nat} {zs : List Int} (h : Ft e W B o n c zs) {b : Nat} (hb : b < B) (u v : Value) : Ft e ((W.setCell ⟨b, 0, none⟩ u).setCell ⟨b, 1, none⟩ v) B o n c zs :=
  h.keep1 (set2 W b 0 1 u v) (fun b' off e' => by have := (h.at b' off e').1; intro e2; cases e2; omega)

set_option maxHeartbeats 4000000 in
set_option maxRecDepth 20000 in
theorem empty_any (fo : Option Addr) (fn fc : Nat) (fs : List Int) (lo bo : Option Addr) (ln lc bn bc : Nat) (ls las : List Int) (told : Bool) (w : World) (hf : Rd w fo fn fs) (sf : Sl fo fn fc) (hl : Rd w lo ln ls) (sl : Sl lo ln lc) (hb : Rd w bo bn las) :
    Calls Tryz.prog 56 #[.slice fo fn fc, .agg #[.slice lo ln lc, .slice bo bn bc], .bool told] w fun e w' => ∃ o1 n1 c1 o2 n2 c2, e = .returned (.tuple #[.agg #[.slice o1 n1 c1, .slice o2 n2 c2], .int .i64 (empE fs ls las told)]) ∧ Ft 3 w' w.heap.size o1 n1 c1 (empS fs ls las told) ∧ Ft 2 w' w.heap.size o2 n2 c2 [] ∧ Below w.heap.size w w' := by
  have I0 := it_start w lo ln lc bo bn bc ls las hl hb
  have E0 : Em w _ lo ln lc bo bn bc fo fn ls las fs := ⟨I0, hf.below I0.bel (Nat.le_refl _)⟩
  have hz := size_any fo fn fc fs _ E0.f
  obtain ⟨k0, k1, z0, z1⟩ := box2 I0.r
  have pb := I0.bel
  by_cases h0 : mayF fs = 0
  · rw [h0, sizeF_ok h0] at hz
    have bd := pr_small h0 fs.length (Nat.le_refl _)
    rw [List.take_length] at bd
    have hfn : fn ≤ 8 := by rw [← hf.len]; exact (mayF_zero h0).2.1
    by_cases hp : 0 < pr fs
    · have e1 : empE fs ls las told = 11 := by unfold empE; rw [if_neg (by omega), if_pos hp]
      have e2 : empS fs ls las told = [] := by unfold empS; rw [if_pos (by omega)]
      rw [e1, e2]
      have t1 : decide (0 < pr fs) = true := by simpa using hp
      clear e1 e2 hp h0
      go_enter Tryz.func56, Tryz.ntmps56
      go_wp2_with (go_at_call 22; refine hz.mono ?_; rintro e w' ⟨rfl, hw⟩; rw [hw]; clear hw w')
      (try simp only [Exit.inBlock, Exit.then])
      refine bodyPost_ret (v := .tuple #[.agg #[.slice none 0 0, .slice none 0 0], .int .i64 11]) (by rw [results_cell_tmp rfl]; go_simp) rfl ?_
      exact ⟨none, 0, 0, none, 0, 0, rfl, Ft.nil _ _ _, Ft.nil _ _ _, by first | exact pb | exact below_set2 _ _ _ _ pb (by omega) (Nat.le_refl _)⟩
    · have t1 : decide (0 < pr fs) = false := by simpa using hp
      have hp0 : pr fs = 0 := by omega
      rw [hp0] at hz
      cases told with
      | false =>
        have e1 : empE fs ls las false = 0 := by unfold empE; rw [if_neg (by omega), if_neg hp]; rfl
        have e2 : empS fs ls las false = fs := by unfold empS; rw [if_neg (by omega)]; rfl
        rw [e1, e2]
        have hfl := fill_any fo fn fc fs 0 _ E0.f sf (by omega) (by omega)
        rw [h0, show filS fs = fs from if_pos h0, show filA fs 0 = [] by unfold filA; rw [if_pos h0, hp0]; rfl] at hfl
        clear e1 e2 hp h0 t1 hp0 bd
        go_enter Tryz.func56, Tryz.ntmps56
        go_wp2_with (first
          | (go_at_call 22; refine hz.mono ?_; rintro e w' ⟨rfl, hw⟩; rw [hw]; clear hw w')
          | (go_at_call 24; refine hfl.mono ?_; rintro e W1 ⟨o1, n1, c1, o2, n2, c2, rfl, f1, f2, _, h1⟩; have J := (I0.below h1); obtain ⟨j0, j1, j2, j3⟩ := box2 J.r))
        (try simp only [Exit.inBlock, Exit.then])
        refine bodyPost_ret (v := .tuple #[.agg #[.slice o1 n1 c1, .slice o2 n2 c2], .int .i64 0]) (by rw [results_cell_tmp rfl]; go_simp) rfl ?_
        have sz := (Array.getElem?_eq_some_iff.1 I0.r).1
        exact ⟨o1, n1, c1, o2, n2, c2, rfl, (ft_set (w := w) f1 (by simp) _ _).mono (by omega), (ft_set (w := w) f2 (by simp) _ _).mono (by omega), below_set2 _ _ _ _ J.bel (by omega) (Nat.le_refl _)⟩
      | true =>
        have hma := mayA_any lo bo ln lc bn bc ls las _ E0.it.s E0.it.a
        by_cases hm : mayA ls las = 0
        · have e1 : empE fs ls las true = mayF (fs ++ ls) := by unfold empE; rw [if_neg (by omega), if_neg hp, if_pos rfl, if_neg (by omega)]
          have e2 : empS fs ls las true = filS (fs ++ ls) := by
            unfold empS filS; rw [e1]
            by_cases c : mayF (fs ++ ls) = 0
            · rw [if_neg (by omega), if_pos rfl, if_pos c]
            · rw [if_pos c, if_neg c]
          have e3 : filA (fs ++ ls) 0 = [] := by
            unfold filA
            by_cases c : mayF (fs ++ ls) = 0
            · rw [if_pos c, pr_app, hp0, Int.zero_mul]; rfl
            · rw [if_neg c]
          rw [e1, e2]
          rw [hm] at hma
          have hln : ln ≤ 8 := by rw [← hl.len]; exact (mayF_zero (mayA_zero hm).1).2.1
          clear e1 e2 hp h0 t1 hp0 bd hm
          go_enter Tryz.func56, Tryz.ntmps56
          go_wp2_with (first
            | (go_at_call 22; refine hz.mono ?_; rintro e w' ⟨rfl, hw⟩; rw [hw]; clear hw w')
            | (go_at_call 13; refine hma.mono ?_; rintro e W1 ⟨rfl, h1⟩; have E1 := E0.below h1; have I1 := E1.it; obtain ⟨p0, p1, _, _, _, _⟩ := I1)
            | (go_at_call 41; refine (concat_any fo lo fn fc ln lc W1.heap.size fs ls _ (allocNew W1 _) (E1.f.below (box_below W1 _) (Nat.le_refl _)) sf (E1.it.s.below (box_below W1 _) (Nat.le_refl _)) sl (by omega) (by omega)).mono ?_; rintro e W2 ⟨o3, c3, rfl, f3, h3⟩)
            | (go_at_call 24; refine (fill_any o3 (fn + ln) c3 _ 0 _ f3.rd f3.sl (by omega) (by omega)).mono ?_; rintro e W3 ⟨o1, n1, c1, o2, n2, c2, rfl, f1, f2, _, h4⟩; rw [e3] at f2; have J := ((E1.it.below (box_below W1 _)).below h3).below h4; have JJ := J.r; obtain ⟨j0, j1, j2, j3⟩ := box2 JJ))
          (try simp only [Exit.inBlock, Exit.then])
          have sz2 : w.heap.size + 1 < W2.heap.size := by
            have := (Array.getElem?_eq_some_iff.1 ((E1.it.below (box_below W1 (.cells #[.slice fo fn fc, .slice lo ln lc] 33))).below h3).r).1
            exact this
          refine bodyPost_ret (v := .tuple #[.agg #[.slice o1 n1 c1, .slice o2 n2 c2], .int .i64 (mayF (fs ++ ls))]) (by rw [results_cell_tmp rfl]; go_simp) rfl ?_
          exact ⟨o1, n1, c1, o2, n2, c2, rfl, (ft_set (w := w) f1 sz2 _ _).mono (by omega), (ft_set (w := w) f2 sz2 _ _).mono (by omega), below_set2 _ _ _ _ J.bel (by omega) (Nat.le_refl _)⟩
        · have e1 : empE fs ls las true = 1 := by unfold empE; rw [if_neg (by omega), if_neg hp, if_pos rfl, if_pos hm]
          have e2 : empS fs ls las true = [] := by unfold empS; rw [if_pos (by omega)]
          rw [e1, e2]
          have hm' : (mayA ls las != 0) = true := by simpa using hm
          clear e1 e2 hp h0 t1 hp0 bd hm
          go_enter Tryz.func56, Tryz.ntmps56
          go_wp2_with (first
            | (go_at_call 22; refine hz.mono ?_; rintro e w' ⟨rfl, hw⟩; rw [hw]; clear hw w')
            | (go_at_call 13; refine hma.mono ?_; rintro e W1 ⟨rfl, h1⟩; have E1 := E0.below h1; have I1 := E1.it; obtain ⟨p0, p1, pr1, _, _, pb1⟩ := I1; obtain ⟨j0, j1, j2, j3⟩ := box2 pr1))
          (try simp only [Exit.inBlock, Exit.then])
          refine bodyPost_ret (v := .tuple #[.agg #[.slice none 0 0, .slice none 0 0], .int .i64 1]) (by rw [results_cell_tmp rfl]; go_simp) rfl ?_
          exact ⟨none, 0, 0, none, 0, 0, rfl, Ft.nil _ _ _, Ft.nil _ _ _, by first | exact pb1 | exact below_set2 _ _ _ _ pb1 (by omega) (Nat.le_refl _)⟩
  · have e1 : empE fs ls las told = mayF fs := by unfold empE; rw [if_pos h0]
    have e2 : empS fs ls las told = [] := by unfold empS; rw [e1, if_pos h0]
    rw [e1, e2]
    have t1 : (mayF fs != 0) = true := by simpa using h0
    clear e1 e2 h0
    go_enter Tryz.func56, Tryz.ntmps56
    go_wp2_with (go_at_call 22; refine hz.mono ?_; rintro e w' ⟨rfl, hw⟩; rw [hw]; clear hw w')
    (try simp only [Exit.inBlock, Exit.then])
    refine bodyPost_ret (v := .tuple #[.agg #[.slice none 0 0, .slice none 0 0], .int .i64 (mayF fs)]) (by rw [results_cell_tmp rfl]; go_simp) rfl ?_
    exact ⟨none, 0, 0, none, 0, 0, rfl, Ft.nil _ _ _, Ft.nil _ _ _, by first | exact pb | exact below_set2 _ _ _ _ pb (by omega) (Nat.le_refl _)⟩
end Go.Proofs.YtelcagfaflpolaaGreat
