
/- Contracts of package mold: an array as it is; the tables' functions; Has. -/

import Derived.Test.YtpfdiammgdnhmaaGreatMK
import Derived.Test.YtpfdiammgdnhmaaGreatMU


namespace Go.Proofs.YtpfdiammgdnhmaaGreat

open Go.RowKit

set_option linter.unusedVariables false

set_option maxHeartbeats 1000000 in
theorem copied8_any (ao : Option Addr) (n cap : Nat) (zs : List Int) (w : World) (h : Rd w ao n zs) (hs : Sl ao n cap) :
    Calls Tryz.prog 54 #[.slice ao n cap] w fun e w' => ∃ o c, e = .returned (.slice o n c) ∧ Ft 2 w' w.heap.size o n c zs ∧ Below w.heap.size w w' := by
  have hroom := h.room
  go_enter Tryz.func54, Tryz.ntmps54
  go_wp2_with (at_builtin; refine wpList_joinT tyL rfl _ _ rfl w.heap.size none ao 0 0 n cap [] zs rfl rfl (Ft.nil _ _ _) h hs (by omega) (Nat.le_refl _) ?_; intro co c w1 hf hb1; rw [Nat.zero_add, List.nil_append] at hf)
  go_ret
  exact ⟨_, _, rfl, by first | exact hf | (rw [Nat.zero_add]; exact hf), hb1⟩
set_option maxHeartbeats 1000000 in
theorem copiedI_any (ao : Option Addr) (n cap : Nat) (zs : List Int) (w : World) (h : Rd w ao n zs) (hs : Sl ao n cap) :
    Calls Tryz.prog 63 #[.slice ao n cap] w fun e w' => ∃ o c, e = .returned (.slice o n c) ∧ Ft 3 w' w.heap.size o n c zs ∧ Below w.heap.size w w' := by
  have hroom := h.room
  go_enter Tryz.func63, Tryz.ntmps63
  go_wp2_with (at_builtin; refine wpList_joinT tyI rfl _ _ rfl w.heap.size none ao 0 0 n cap [] zs rfl rfl (Ft.nil _ _ _) h hs (by omega) (Nat.le_refl _) ?_; intro co c w1 hf hb1; rw [Nat.zero_add, List.nil_append] at hf)
  go_ret
  exact ⟨_, _, rfl, by first | exact hf | (rw [Nat.zero_add]; exact hf), hb1⟩

theorem Un.all {w W : World} {so : Option Addr} {sn sc : Nat} {ao : Option Addr} {an ac : Nat} (h : Un w W so sn sc ao an ac) : W.cell? ⟨w.heap.size, 0, none⟩ = some (.slice so sn sc) ∧ W.cell? ⟨w.heap.size, 1, none⟩ = some (.slice ao an ac) ∧ Un w W so sn sc ao an ac := ⟨h.c0, h.c1, h⟩
theorem Un.drew {w W : World} {so : Option Addr} {sn sc : Nat} {ao : Option Addr} {an ac : Nat} (h : Un w W so sn sc ao an ac) : Un w W.drew so sn sc ao an ac := h.below (Below.refl W.heap.size W).drew h.sz
theorem Un.set {w W : World} {so : Option Addr} {sn sc : Nat} {ao : Option Addr} {an ac : Nat} (h : Un w W so sn sc ao an ac) (u v : Value) : Un w ((W.setCell ⟨w.heap.size + 1, 0, none⟩ u).setCell ⟨w.heap.size + 1, 1, none⟩ v) so sn sc ao an ac := by
  have hg := set2 W (w.heap.size + 1) 0 1 u v
  obtain ⟨s, t, hr⟩ := h.r
  have a1 := heap_setCell_same W (w.heap.size + 1) 0 _ 25 u hr
  have a2 := heap_setCell_same _ (w.heap.size + 1) 1 _ 25 v a1
  exact ⟨hg.cell h.c0 (show some w.heap.size ≠ _ from some_ne (by omega)), hg.cell h.c1 (show some w.heap.size ≠ _ from some_ne (by omega)), ⟨u, v, by simpa using a2⟩, below_set2 _ _ _ _ h.bel (by omega) (Nat.le_refl _)⟩

set_option maxHeartbeats 2000000 in
set_option maxRecDepth 20000 in
theorem itself_any (so ao : Option Addr) (sn sc an ac : Nat) (sh at' : List Int) (w : World) (hs : Rd w so sn sh) (ss : Sl so sn sc) (ha : Rd w ao an at') (sa : Sl ao an ac) :
    Calls Tryz.prog 41 #[.agg #[.slice so sn sc, .slice ao an ac]] w fun e w' => ∃ o1 n1 c1 o2 n2 c2, e = .returned (.tuple #[.agg #[.slice o1 n1 c1, .slice o2 n2 c2], .int .i64 0]) ∧ Ft 3 w' w.heap.size o1 n1 c1 sh ∧ Ft 2 w' w.heap.size o2 n2 c2 at' ∧ Below w.heap.size w w' := by
  have U0 := un_start w so sn sc ao an ac
  have U1 := U0.drew
  have s1 := U1.sz
  have cI := copiedI_any so sn sc sh _ (hs.below U1.bel (Nat.le_refl _)) ss
  have c8 := fun V (U : Un w V so sn sc ao an ac) => copied8_any ao an ac at' V (ha.below U.bel (Nat.le_refl _)) sa
  obtain ⟨x0, x1, _⟩ := U0.all
  go_enter Tryz.func41, Tryz.ntmps41
  go_wp2
  go_region_held3 (fun V => V.cell? ⟨w.heap.size, 0, none⟩ = some (.slice so sn sc) ∧ V.cell? ⟨w.heap.size, 1, none⟩ = some (.slice ao an ac) ∧ Un w V so sn sc ao an ac) (first | exact Un.all (by assumption) | exact Un.all (Un.drew (by assumption)) | exact Un.all (Un.set (by assumption) _ _))
    (first
      | (go_at_call 63; (with_reducible refine cI.mono ?_); rintro e w4 ⟨o4, c4, rfl, f4, k4⟩; have U4 := U1.below k4 s1)
      | (go_at_call 54; (with_reducible refine (c8 w4 U4).mono ?_); rintro e w5 ⟨o5, c5, rfl, f5, k5⟩; have U5 := U4.below k5 U4.sz; obtain ⟨u5, v5, hr5⟩ := U5.r; obtain ⟨z0, z1, z2, z3⟩ := box2 hr5))
  go_wp2
  (try simp only [Exit.inBlock, Exit.then])
  refine bodyPost_ret (v := .tuple #[.agg #[.slice o4 sn c4, .slice o5 an c5], .int .i64 0]) (by rw [results_cell_tmp rfl]; go_simp) rfl ?_
  have s4 := U4.sz
  exact ⟨_, _, _, _, _, _, rfl, (ft_set (w := w) (f4.below k5 (Nat.le_refl _)) (by omega) _ _).mono (by omega), (ft_set (w := w) f5 (by omega) _ _).mono (by omega), below_set2 _ _ _ _ U5.bel (by omega) (Nat.le_refl _)⟩
end Go.Proofs.YtpfdiammgdnhmaaGreat
