
/- Contracts of package seek: the verbs. -/

import Derived.Test.YtmepcenbaohcoaaGreatYL

namespace Go.Proofs.YtmepcenbaohcoaaGreat

open Go.RowKit

set_option linter.unusedVariables false

/-- One array in its box, and a box for the answer. -/
structure UnQ (w W : World) (so : Option Addr) (sn sc : Nat) (ao : Option Addr) (an ac : Nat) : Prop where
  x : W.heap[w.heap.size]? = some (.cells #[.slice so sn sc, .slice ao an ac] 30 (0, 0))
  r : W.heap[w.heap.size + 1]? = some (.cells #[.slice none 0 0, .slice none 0 0] 30 (0, 0))
  bel : Below w.heap.size w W
theorem UnQ.sz {w W : World} {so : Option Addr} {sn sc : Nat} {ao : Option Addr} {an ac : Nat} (h : UnQ w W so sn sc ao an ac) : w.heap.size + 2 ≤ W.heap.size := by
  have := (Array.getElem?_eq_some_iff.1 h.r).1
  omega
theorem UnQ.below {w W W' : World} {so : Option Addr} {sn sc : Nat} {ao : Option Addr} {an ac B : Nat} (h : UnQ w W so sn sc ao an ac) (k : Below B W W') (hB : w.heap.size + 2 ≤ B) : UnQ w W' so sn sc ao an ac :=
  ⟨(k.block _ (by omega)).trans h.x, (k.block _ (by omega)).trans h.r, h.bel.trans (k.mono (by omega))⟩
theorem un_startQ (w : World) (so : Option Addr) (sn sc : Nat) (ao : Option Addr) (an ac : Nat) :
    UnQ w ((w.alloc (.cells #[.slice so sn sc, .slice ao an ac] 30)).alloc (.cells #[.slice none 0 0, .slice none 0 0] 30)) so sn sc ao an ac := by
  have k1 := box_below w (.cells #[.slice so sn sc, .slice ao an ac] 30)
  have b1 := allocNew w (.cells #[.slice so sn sc, .slice ao an ac] 30)
  have k2 := box_below (w.alloc (.cells #[.slice so sn sc, .slice ao an ac] 30)) (.cells #[.slice none 0 0, .slice none 0 0] 30)
  have b2 := allocNew (w.alloc (.cells #[.slice so sn sc, .slice ao an ac] 30)) (.cells #[.slice none 0 0, .slice none 0 0] 30)
  simp only [World.size_alloc] at k2 b2
  exact ⟨(k2.block _ (by omega)).trans b1, b2, k1.trans (k2.mono (by omega))⟩
/-- Two arrays in their boxes, and a box for the answer. -/
structure DuQ (w W : World) (so : Option Addr) (sn sc : Nat) (ao : Option Addr) (an ac : Nat) (uo : Option Addr) (un uc : Nat) (bo : Option Addr) (bn bc : Nat) : Prop where
  x : W.heap[w.heap.size]? = some (.cells #[.slice so sn sc, .slice ao an ac] 30 (0, 0))
  y : W.heap[w.heap.size + 1]? = some (.cells #[.slice uo un uc, .slice bo bn bc] 30 (0, 0))
  r : W.heap[w.heap.size + 1 + 1]? = some (.cells #[.slice none 0 0, .slice none 0 0] 30 (0, 0))
  bel : Below w.heap.size w W
theorem DuQ.sz {w W : World} {so : Option Addr} {sn sc : Nat} {ao : Option Addr} {an ac : Nat} {uo : Option Addr} {un uc : Nat} {bo : Option Addr} {bn bc : Nat} (h : DuQ w W so sn sc ao an ac uo un uc bo bn bc) : w.heap.size + 3 ≤ W.heap.size := by
  have := (Array.getElem?_eq_some_iff.1 h.r).1
  omega
theorem DuQ.below {w W W' : World} {so : Option Addr} {sn sc : Nat} {ao : Option Addr} {an ac : Nat} {uo : Option Addr} {un uc : Nat} {bo : Option Addr} {bn bc B : Nat} (h : DuQ w W so sn sc ao an ac uo un uc bo bn bc) (k : Below B W W') (hB : w.heap.size + 3 ≤ B) : DuQ w W' so sn sc ao an ac uo un uc bo bn bc :=
  ⟨(k.block _ (by omega)).trans h.x, (k.block _ (by omega)).trans h.y, (k.block _ (by omega)).trans h.r, h.bel.trans (k.mono (by omega))⟩
theorem du_startQ (w : World) (so : Option Addr) (sn sc : Nat) (ao : Option Addr) (an ac : Nat) (uo : Option Addr) (un uc : Nat) (bo : Option Addr) (bn bc : Nat) :
    DuQ w (((w.alloc (.cells #[.slice so sn sc, .slice ao an ac] 30)).alloc (.cells #[.slice uo un uc, .slice bo bn bc] 30)).alloc (.cells #[.slice none 0 0, .slice none 0 0] 30)) so sn sc ao an ac uo un uc bo bn bc := by
  have k1 := box_below w (.cells #[.slice so sn sc, .slice ao an ac] 30)
  have b1 := allocNew w (.cells #[.slice so sn sc, .slice ao an ac] 30)
  have k2 := box_below (w.alloc (.cells #[.slice so sn sc, .slice ao an ac] 30)) (.cells #[.slice uo un uc, .slice bo bn bc] 30)
  have b2 := allocNew (w.alloc (.cells #[.slice so sn sc, .slice ao an ac] 30)) (.cells #[.slice uo un uc, .slice bo bn bc] 30)
  have k3 := box_below ((w.alloc (.cells #[.slice so sn sc, .slice ao an ac] 30)).alloc (.cells #[.slice uo un uc, .slice bo bn bc] 30)) (.cells #[.slice none 0 0, .slice none 0 0] 30)
  have b3 := allocNew ((w.alloc (.cells #[.slice so sn sc, .slice ao an ac] 30)).alloc (.cells #[.slice uo un uc, .slice bo bn bc] 30)) (.cells #[.slice none 0 0, .slice none 0 0] 30)
  simp only [World.size_alloc] at k2 b2 k3 b3
  exact ⟨(k3.block _ (by omega)).trans ((k2.block _ (by omega)).trans b1), (k3.block _ (by omega)).trans b2, b3, (k1.trans (k2.mono (by omega))).trans (k3.mono (by omega))⟩
/-- A result's box is written: what else there is, and the new rows. -/
theorem ft_setQ {e : TypeId} {V : World} {B b : Nat} {o : Option Addr} {n c : Nat} {zs : List Int} (h : Ft e V B o n c zs) (hb : b < B) (u v : Value) : Ft e ((V.setCell ⟨b, 0, none⟩ u).setCell ⟨b, 1, none⟩ v) B o n c zs := by
  have a := h.at
  exact h.keep1 (set2 V b 0 1 u v) (fun b' off e e' => by have := (a b' off e).1; injection e' with e'; omega)

set_option maxHeartbeats 1000000 in
theorem gradeUp_any (so ao : Option Addr) (sn sc an ac : Nat) (sh at' : List Int) (w : World) (h : Rd w so sn sh) (hs : Sl so sn sc) (g : Rd w ao an at') (gs : Sl ao an ac) (h0 : mayA sh at' = 0) :
    Calls Tryz.prog 44 #[.agg #[.slice so sn sc, .slice ao an ac]] w fun e w' => ∃ o1 n1 c1 o2 n2 c2 ps, e = .returned (.tuple #[.agg #[.slice o1 n1 c1, .slice o2 n2 c2], .int .i64 0]) ∧ Ft 3 w' w.heap.size o1 n1 c1 [(itN sh : Int)] ∧ Ft 2 w' w.heap.size o2 n2 c2 ps ∧ Pls (cUp (itX sh at')) (itN sh) ps ∧ Below w.heap.size w w' := by
  have U0 := un_startQ w so sn sc ao an ac
  have hit := itemsOf_any so ao sn sc an ac sh at' w _ U0.bel h hs g gs h0
  obtain ⟨q0, q1, _, _⟩ := box2 U0.x
  generalize itN sh = n at *
  generalize itX sh at' = xs at *
  go_enter Tryz.func44, Tryz.ntmps44
  go_wp2_with (first
    | (go_at_call 71; (with_reducible refine hit.mono ?_); rintro e w1 ⟨gg, rfl, lg, lb, C1⟩)
    | (go_at_call 70; (with_reducible refine (rising_any _ _ _ _ w1 C1.as C1.n4).mono ?_); rintro e w2 ⟨g2, ps, rfl, f2, p2, h2⟩)
    | (go_at_call 69; (with_reducible refine (numbers_any _ _ _ _ w2 f2.rd C1.n4).mono ?_); rintro e w3 ⟨o1, c1, o2, c2, rfl, F1, F2, h3⟩; have s1 := U0.sz; have s2 := lb.size; have s3 := h2.size; have s4 := h3.size; have U3 := ((U0.below lb U0.sz).below h2 (by omega)).below h3 (by omega); obtain ⟨r0, r1, r2, r3⟩ := box2 U3.r))
  (try simp only [Exit.inBlock, Exit.then])
  refine bodyPost_ret (v := .tuple #[.agg #[.slice o1 1 c1, .slice o2 n c2], .int .i64 0]) (by rw [results_cell_tmp rfl]; go_simp) rfl ?_
  exact ⟨o1, 1, c1, o2, n, c2, ps, rfl, (ft_setQ F1 (by omega) _ _).mono (by omega), (ft_setQ F2 (by omega) _ _).mono (by omega), p2, below_set2 _ _ _ _ U3.bel (by omega) (Nat.le_refl _)⟩

set_option maxHeartbeats 1000000 in
theorem gradeDown_any (so ao : Option Addr) (sn sc an ac : Nat) (sh at' : List Int) (w : World) (h : Rd w so sn sh) (hs : Sl so sn sc) (g : Rd w ao an at') (gs : Sl ao an ac) (h0 : mayA sh at' = 0) :
    Calls Tryz.prog 46 #[.agg #[.slice so sn sc, .slice ao an ac]] w fun e w' => ∃ o1 n1 c1 o2 n2 c2 ps, e = .returned (.tuple #[.agg #[.slice o1 n1 c1, .slice o2 n2 c2], .int .i64 0]) ∧ Ft 3 w' w.heap.size o1 n1 c1 [(itN sh : Int)] ∧ Ft 2 w' w.heap.size o2 n2 c2 ps ∧ Pls (cDn (itX sh at')) (itN sh) ps ∧ Below w.heap.size w w' := by
  have U0 := un_startQ w so sn sc ao an ac
  have hit := itemsOf_any so ao sn sc an ac sh at' w _ U0.bel h hs g gs h0
  obtain ⟨q0, q1, _, _⟩ := box2 U0.x
  generalize itN sh = n at *
  generalize itX sh at' = xs at *
  go_enter Tryz.func46, Tryz.ntmps46
  go_wp2_with (first
    | (go_at_call 71; (with_reducible refine hit.mono ?_); rintro e w1 ⟨gg, rfl, lg, lb, C1⟩)
    | (go_at_call 73; (with_reducible refine (falling_any _ _ _ _ w1 C1.as C1.n4).mono ?_); rintro e w2 ⟨g2, ps, rfl, f2, p2, h2⟩)
    | (go_at_call 69; (with_reducible refine (numbers_any _ _ _ _ w2 f2.rd C1.n4).mono ?_); rintro e w3 ⟨o1, c1, o2, c2, rfl, F1, F2, h3⟩; have s1 := U0.sz; have s2 := lb.size; have s3 := h2.size; have s4 := h3.size; have U3 := ((U0.below lb U0.sz).below h2 (by omega)).below h3 (by omega); obtain ⟨r0, r1, r2, r3⟩ := box2 U3.r))
  (try simp only [Exit.inBlock, Exit.then])
  refine bodyPost_ret (v := .tuple #[.agg #[.slice o1 1 c1, .slice o2 n c2], .int .i64 0]) (by rw [results_cell_tmp rfl]; go_simp) rfl ?_
  exact ⟨o1, 1, c1, o2, n, c2, ps, rfl, (ft_setQ F1 (by omega) _ _).mono (by omega), (ft_setQ F2 (by omega) _ _).mono (by omega), p2, below_set2 _ _ _ _ U3.bel (by omega) (Nat.le_refl _)⟩

set_option maxHeartbeats 2000000 in
theorem placeIn_any (so ao uo bo : Option Addr) (sn sc an ac un uc bn bc : Nat) (sh at' th bt' : List Int) (w : World) (h : Rd w so sn sh) (hs : Sl so sn sc) (g : Rd w ao an at') (gs : Sl ao an ac) (h0 : mayA sh at' = 0) (h2 : Rd w uo un th) (hs2 : Sl uo un uc) (g2 : Rd w bo bn bt') (gs2 : Sl bo bn bc) (h02 : mayA th bt' = 0) :
    Calls Tryz.prog 39 #[.agg #[.slice so sn sc, .slice ao an ac], .agg #[.slice uo un uc, .slice bo bn bc]] w fun e w' => ∃ o1 n1 c1 o2 n2 c2, e = .returned (.tuple #[.agg #[.slice o1 n1 c1, .slice o2 n2 c2], .int .i64 0]) ∧ Ft 3 w' w.heap.size o1 n1 c1 (th.take (frN un sn)) ∧ Ft 2 w' w.heap.size o2 n2 c2 (ecL (tP (itX sh at') (itN sh)) (cux th bt' (frN un sn)) (cun th (frN un sn))) ∧ Below w.heap.size w w' := by
  have D0 := du_startQ w so sn sc ao an ac uo un uc bo bn bc
  have hln : sn ≤ 8 := by rw [← h.len]; exact (mayF_zero (mayA_zero h0).1).2.1
  have hfi := finderOf_any so ao sn sc an ac sh at' _ (h.below D0.bel (Nat.le_refl _)) hs (g.below D0.bel (Nat.le_refl _)) gs h0
  obtain ⟨q0, q1, _, _⟩ := box2 D0.x
  obtain ⟨y0, y1, _, _⟩ := box2 D0.y
  generalize itN sh = n at *
  generalize itX sh at' = xs at *
  generalize hWW : (((w.alloc (.cells #[.slice so sn sc, .slice ao an ac] 30)).alloc (.cells #[.slice uo un uc, .slice bo bn bc] 30)).alloc (.cells #[.slice none 0 0, .slice none 0 0] 30)) = W at *
  have key : ∀ io po pc w1, Fnd w1 io n n po pc xs → Below W.heap.size W w1 → Calls Tryz.prog 59 #[.agg #[.slice uo un uc, .slice bo bn bc], .agg #[.slice so sn sc, .slice ao an ac], .func (.func 60) #[] #[.pointer (some ⟨w1.heap.size, 0, none⟩)]] (w1.alloc (.cells #[.slice io n n, .slice po n pc] 78)) fun e w' => ∃ o1 n1 c1 o2 n2 c2, e = .returned (.agg #[.slice o1 n1 c1, .slice o2 n2 c2]) ∧ Ft 3 w' (w1.heap.size + 1) o1 n1 c1 (th.take (frN un sn)) ∧ Ft 2 w' (w1.heap.size + 1) o2 n2 c2 (ecL (tP xs n) (cux th bt' (frN un sn)) (cun th (frN un sn))) ∧ Below (w1.heap.size + 1) (w1.alloc (.cells #[.slice io n n, .slice po n pc] 78)) w' := fun io po pc w1 Fn lb => by
    have kz := box_below w1 (.cells #[.slice io n n, .slice po n pc] 78)
    have bz := allocNew w1 (.cells #[.slice io n n, .slice po n pc] 78)
    have kw : Below w.heap.size w (w1.alloc (.cells #[.slice io n n, .slice po n pc] 78)) := (D0.bel.trans (lb.mono D0.bel.size)).trans (kz.mono (by have := lb.size; have := D0.bel.size; omega))
    have := eachP uo bo un uc bn bc th bt' so ao sn sc an ac sh (some ⟨w1.heap.size, 0, none⟩) (tP xs n) _ (h2.below kw (Nat.le_refl _)) hs2 (g2.below kw (Nat.le_refl _)) gs2 h02 (h.below kw (Nat.le_refl _)) hln (fun x => by
      have := fsq_le xs n x
      have := Fn.n4
      unfold tP
      omega) (fun V hV so' sn' sc' ao' an' ac' s a r1 r2 => place1_any io n n po pc xs so' ao' sn' sc' an' ac' s a w1.heap.size V ((hV.block _ (by simp)).trans bz) ((Fn.below kz (Nat.le_refl _)).below hV (Nat.le_refl _)) r1 r2)
    rw [World.size_alloc] at this
    exact this
  subst hWW
  go_enter Tryz.func39, Tryz.ntmps39
  go_wp2_with (first
    | (go_at_call 58; (with_reducible refine hfi.mono ?_); rintro e w1 ⟨io, po, pc, rfl, Fn, lb⟩; have D1 := (D0.below lb D0.sz).below (box_below w1 (.cells #[.slice io n n, .slice po n pc] 78)) (by have := lb.size; have := D0.sz; omega); obtain ⟨z0, z1, _, _⟩ := box2 D1.x; obtain ⟨v0, v1, _, _⟩ := box2 D1.y)
    | (go_at_call 59; (with_reducible refine (key io po pc w1 Fn lb).mono ?_); rintro e w2 ⟨o1, n1, c1, o2, n2, c2, rfl, F1, F2, b2⟩; have s0 := lb.size; have s1 := D0.sz; have D2 := D1.below b2 (by omega); obtain ⟨r0, r1, r2, r3⟩ := box2 D2.r))
  (try simp only [Exit.inBlock, Exit.then])
  refine bodyPost_ret (v := .tuple #[.agg #[.slice o1 n1 c1, .slice o2 n2 c2], .int .i64 0]) (by rw [results_cell_tmp rfl]; go_simp) rfl ?_
  exact ⟨o1, n1, c1, o2, n2, c2, rfl, (ft_setQ F1 (by omega) _ _).mono (by omega), (ft_setQ F2 (by omega) _ _).mono (by omega), below_set2 _ _ _ _ D2.bel (by omega) (Nat.le_refl _)⟩

set_option maxHeartbeats 2000000 in
theorem isIn_any (so ao uo bo : Option Addr) (sn sc an ac un uc bn bc : Nat) (sh at' th bt' : List Int) (w : World) (h : Rd w so sn sh) (hs : Sl so sn sc) (g : Rd w ao an at') (gs : Sl ao an ac) (h0 : mayA sh at' = 0) (h2 : Rd w uo un th) (hs2 : Sl uo un uc) (g2 : Rd w bo bn bt') (gs2 : Sl bo bn bc) (h02 : mayA th bt' = 0) :
    Calls Tryz.prog 40 #[.agg #[.slice so sn sc, .slice ao an ac], .agg #[.slice uo un uc, .slice bo bn bc]] w fun e w' => ∃ o1 n1 c1 o2 n2 c2, e = .returned (.tuple #[.agg #[.slice o1 n1 c1, .slice o2 n2 c2], .int .i64 0]) ∧ Ft 3 w' w.heap.size o1 n1 c1 (sh.take (frN sn un)) ∧ Ft 2 w' w.heap.size o2 n2 c2 (ecL (tI (itX th bt') (itN th)) (cux sh at' (frN sn un)) (cun sh (frN sn un))) ∧ Below w.heap.size w w' := by
  have D0 := du_startQ w so sn sc ao an ac uo un uc bo bn bc
  have hln : un ≤ 8 := by rw [← h2.len]; exact (mayF_zero (mayA_zero h02).1).2.1
  have hfi := finderOf_any uo bo un uc bn bc th bt' _ (h2.below D0.bel (Nat.le_refl _)) hs2 (g2.below D0.bel (Nat.le_refl _)) gs2 h02
  obtain ⟨q0, q1, _, _⟩ := box2 D0.x
  obtain ⟨y0, y1, _, _⟩ := box2 D0.y
  generalize itN th = n at *
  generalize itX th bt' = xs at *
  generalize hWW : (((w.alloc (.cells #[.slice so sn sc, .slice ao an ac] 30)).alloc (.cells #[.slice uo un uc, .slice bo bn bc] 30)).alloc (.cells #[.slice none 0 0, .slice none 0 0] 30)) = W at *
  have key : ∀ io po pc w1, Fnd w1 io n n po pc xs → Below W.heap.size W w1 → Calls Tryz.prog 59 #[.agg #[.slice so sn sc, .slice ao an ac], .agg #[.slice uo un uc, .slice bo bn bc], .func (.func 62) #[] #[.pointer (some ⟨w1.heap.size, 0, none⟩)]] (w1.alloc (.cells #[.slice io n n, .slice po n pc] 78)) fun e w' => ∃ o1 n1 c1 o2 n2 c2, e = .returned (.agg #[.slice o1 n1 c1, .slice o2 n2 c2]) ∧ Ft 3 w' (w1.heap.size + 1) o1 n1 c1 (sh.take (frN sn un)) ∧ Ft 2 w' (w1.heap.size + 1) o2 n2 c2 (ecL (tI xs n) (cux sh at' (frN sn un)) (cun sh (frN sn un))) ∧ Below (w1.heap.size + 1) (w1.alloc (.cells #[.slice io n n, .slice po n pc] 78)) w' := fun io po pc w1 Fn lb => by
    have kz := box_below w1 (.cells #[.slice io n n, .slice po n pc] 78)
    have bz := allocNew w1 (.cells #[.slice io n n, .slice po n pc] 78)
    have kw : Below w.heap.size w (w1.alloc (.cells #[.slice io n n, .slice po n pc] 78)) := (D0.bel.trans (lb.mono D0.bel.size)).trans (kz.mono (by have := lb.size; have := D0.bel.size; omega))
    have := eachI so ao sn sc an ac sh at' uo bo un uc bn bc th (some ⟨w1.heap.size, 0, none⟩) (tI xs n) _ (h.below kw (Nat.le_refl _)) hs (g.below kw (Nat.le_refl _)) gs h0 (h2.below kw (Nat.le_refl _)) hln (fun x => by
      have := fsq_le xs n x
      have := Fn.n4
      unfold tI
      split <;> omega) (fun V hV so' sn' sc' ao' an' ac' s a r1 r2 => isIn1_any io n n po pc xs so' ao' sn' sc' an' ac' s a w1.heap.size V ((hV.block _ (by simp)).trans bz) ((Fn.below kz (Nat.le_refl _)).below hV (Nat.le_refl _)) r1 r2)
    rw [World.size_alloc] at this
    exact this
  subst hWW
  go_enter Tryz.func40, Tryz.ntmps40
  go_wp2_with (first
    | (go_at_call 58; (with_reducible refine hfi.mono ?_); rintro e w1 ⟨io, po, pc, rfl, Fn, lb⟩; have D1 := (D0.below lb D0.sz).below (box_below w1 (.cells #[.slice io n n, .slice po n pc] 78)) (by have := lb.size; have := D0.sz; omega); obtain ⟨z0, z1, _, _⟩ := box2 D1.x; obtain ⟨v0, v1, _, _⟩ := box2 D1.y)
    | (go_at_call 59; (with_reducible refine (key io po pc w1 Fn lb).mono ?_); rintro e w2 ⟨o1, n1, c1, o2, n2, c2, rfl, F1, F2, b2⟩; have s0 := lb.size; have s1 := D0.sz; have D2 := D1.below b2 (by omega); obtain ⟨r0, r1, r2, r3⟩ := box2 D2.r))
  (try simp only [Exit.inBlock, Exit.then])
  refine bodyPost_ret (v := .tuple #[.agg #[.slice o1 n1 c1, .slice o2 n2 c2], .int .i64 0]) (by rw [results_cell_tmp rfl]; go_simp) rfl ?_
  exact ⟨o1, n1, c1, o2, n2, c2, rfl, (ft_setQ F1 (by omega) _ _).mono (by omega), (ft_setQ F2 (by omega) _ _).mono (by omega), below_set2 _ _ _ _ D2.bel (by omega) (Nat.le_refl _)⟩

/-- What PNub tells: the places of those that are met first. -/
def nbP (sh at' : List Int) : List Int := nwo (fsL (itX sh at') (itN sh)) (itN sh)
theorem nbP_in (sh at' : List Int) : inN (itN sh) (nbP sh at') := fun k hk => nwo_mem (nth_mem hk)
theorem nbP_len (sh at' : List Int) : (nbP sh at').length ≤ itN sh := nwo_len _ _

set_option maxHeartbeats 2000000 in
theorem nub_any (so ao : Option Addr) (sn sc an ac : Nat) (sh at' : List Int) (w : World) (h : Rd w so sn sh) (hs : Sl so sn sc) (g : Rd w ao an at') (gs : Sl ao an ac) (h0 : mayA sh at' = 0) :
    Calls Tryz.prog 41 #[.agg #[.slice so sn sc, .slice ao an ac]] w fun e w' => ∃ o1 n1 c1 o2 n2 c2, e = .returned (.tuple #[.agg #[.slice o1 n1 c1, .slice o2 n2 c2], .int .i64 0]) ∧ Ft 3 w' w.heap.size o1 n1 c1 (((nbP sh at').length : Int) :: sh.drop 1) ∧ Ft 2 w' w.heap.size o2 n2 c2 (chA (itX sh at') (nbP sh at') (nbP sh at').length) ∧ Below w.heap.size w w' := by
  have U0 := un_startQ w so sn sc ao an ac
  have U1 : UnQ w ((w.alloc (.cells #[.slice so sn sc, .slice ao an ac] 30)).alloc (.cells #[.slice none 0 0, .slice none 0 0] 30)).drew so sn sc ao an ac := U0.below (B := w.heap.size + 2) (Below.refl _ _).drew (Nat.le_refl _)
  have hfi := finderOf_any so ao sn sc an ac sh at' _ (h.below U1.bel (Nat.le_refl _)) hs (g.below U1.bel (Nat.le_refl _)) gs h0
  have hch := fun V (hV : UnQ w V so sn sc ao an ac) po m pc (hp : Rd V po m (nbP sh at')) (hm : m ≤ 4096) => chosen_any so ao sn sc an ac sh at' po m pc (nbP sh at') V (h.below hV.bel (Nat.le_refl _)) hs (g.below hV.bel (Nat.le_refl _)) gs h0 hp hm (nbP_in sh at')
  have hle := nbP_len sh at'
  have HNB : Hid (nbP sh at' = nwo (fsL (itX sh at') (itN sh)) (itN sh)) := rfl
  generalize nbP sh at' = nb at *
  generalize itN sh = n at *
  generalize itX sh at' = xs at *
  have al : ∀ V, UnQ w V so sn sc ao an ac → V.cell? ⟨w.heap.size, 0, none⟩ = some (.slice so sn sc) ∧ V.cell? ⟨w.heap.size, 1, none⟩ = some (.slice ao an ac) := fun V hV => ⟨(box2 hV.x).1, (box2 hV.x).2.1⟩
  go_enter Tryz.func41, Tryz.ntmps41
  go_wp2
  go_region_held3 (fun V => V.cell? ⟨w.heap.size, 0, none⟩ = some (.slice so sn sc) ∧ V.cell? ⟨w.heap.size, 1, none⟩ = some (.slice ao an ac)) (first | exact al _ U1 | exact al _ U2 | exact al _ U3 | exact al _ U4 | exact al _ U5 | exact S6)
    (first
      | (go_at_call 58; (with_reducible refine hfi.mono ?_); rintro e w1 ⟨io, po, pc, rfl, Fn, lb⟩; have U2 := U1.below lb U1.sz)
      | (go_at_call 67; (with_reducible refine (firsts_any _ _ _ _ _ _ w1 Fn).mono ?_); rintro e w2 ⟨g2, rfl, f2, b2⟩; have U3 := U2.below b2 U2.sz)
      | (go_at_call 66; (with_reducible refine (newOnes_any _ _ _ _ w2 f2.rd Fn.n4).mono ?_); rintro e w3 ⟨o3, m3, c3, rfl, f3, b3⟩; have U4 := U3.below b3 U3.sz; rw [← HNB.out] at f3; have l3 := f3.rd.len)
      | (go_at_call 65; (with_reducible refine (hch w3 U4 _ _ _ f3.rd (by have := Fn.n4; omega)).mono ?_); rintro e w4 ⟨o1, n1, c1, o2, n2, c2, rfl, F1, F2, b4⟩; have U5 := U4.below b4 U4.sz; have s4 := U4.sz; obtain ⟨r0, r1, r2, r3⟩ := box2 U5.r; have kk := set2 w4 (w.heap.size + 1) 0 1 (.slice o1 n1 c1) (.slice o2 n2 c2); have xx := box2 ((kk.block w.heap.size (by have := U5.sz; omega) (fun e => by injection e with e; omega)).trans U5.x); have S6 : _ ∧ _ := ⟨xx.1, xx.2.1⟩))
  go_wp2
  (try simp only [Exit.inBlock, Exit.then])
  refine bodyPost_ret (v := .tuple #[.agg #[.slice o1 n1 c1, .slice o2 n2 c2], .int .i64 0]) (by rw [results_cell_tmp rfl]; go_simp) rfl ?_
  rw [← l3] at F1 F2
  exact ⟨o1, n1, c1, o2, n2, c2, rfl, (ft_setQ F1 (by omega) _ _).mono (by omega), (ft_setQ F2 (by omega) _ _).mono (by omega), below_set2 _ _ _ _ U5.bel (by omega) (Nat.le_refl _)⟩
end Go.Proofs.YtmepcenbaohcoaaGreat
