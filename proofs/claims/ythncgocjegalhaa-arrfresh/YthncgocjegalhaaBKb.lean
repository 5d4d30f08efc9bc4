
/- A book's room. -/

import Derived.Test.YthncgocjegalhaaBKa

import Derived.Test.YthncgocjegalhaaYTr

namespace Go.Proofs.Ythncgocjegalhaa

open Go.RowKit

set_option linter.unusedVariables false

/-- How far a list is grown. -/
def fr (n c : Nat) : Nat := min c (n + 70000)
theorem far_lt (n c m : Int) (w : World) (hm : IntKind.i64.wrap (n + 70000) = m) (h : c < m) : Calls Try.prog 25 #[.int .i64 n, .int .i64 c] w fun e w' => e = .returned (.int .i64 c) ∧ w' = w := by
  have h1 : decide (c < m) = true := by simp [h]
  have h2 : ¬ m < c := by omega
  have h3 : decide (m < c) = false := by simp [h2]
  have h4 : decide (m ≤ c) = false := by simp; omega
  have h5 : decide (c ≤ m) = true := by simp; omega
  go_enter Try.func25, Try.ntmps25
  go_wp2
  go_ret
  exact ⟨rfl, rfl⟩
theorem far_ge (n c m : Int) (w : World) (hm : IntKind.i64.wrap (n + 70000) = m) (h : m ≤ c) : Calls Try.prog 25 #[.int .i64 n, .int .i64 c] w fun e w' => e = .returned (.int .i64 m) ∧ w' = w := by
  have h2 : ¬ c < m := by omega
  have h3 : decide (c < m) = false := by simp [h2]
  have h5 : decide (m ≤ c) = true := by simp; omega
  go_enter Try.func25, Try.ntmps25
  go_wp2
  all_goals go_ret
  · exact ⟨rfl, rfl⟩
  · exact ⟨by rw [show c = m by omega]; rfl, rfl⟩
theorem far_any (n c : Nat) (w : World) (h : n ≤ 140737488351232) : Calls Try.prog 25 #[.int .i64 (n : Int), .int .i64 (c : Int)] w fun e w' => e = .returned (.int .i64 (fr n c : Int)) ∧ w' = w := by
  have hw : IntKind.i64.wrap ((n : Int) + 70000) = (n : Int) + 70000 := by rw [IntKind.wrap_i64]; omega
  by_cases hlt : (c : Int) < (n : Int) + 70000
  · rw [show (fr n c : Int) = (c : Int) by unfold fr; omega]; exact far_lt _ _ _ w hw hlt
  · rw [show (fr n c : Int) = (n : Int) + 70000 by unfold fr; omega]; exact far_ge _ _ _ w hw (by omega)
theorem fr_le (n c : Nat) : fr n c ≤ n + 70000 := by unfold fr; omega
theorem fr_cap (n c : Nat) : fr n c ≤ c := by unfold fr; omega
theorem box3 {W : World} {g : Nat} {x y z : Value} {t : TypeId} (h : W.heap[g]? = some (.cells #[x, y, z] t (0, 0))) :
    (W.cell? ⟨g, 0, none⟩ = some x ∧ W.cell? ⟨g, 1, none⟩ = some y ∧ W.cell? ⟨g, 2, none⟩ = some z) ∧ ∀ j, W.frozen? ⟨g, j, none⟩ = false :=
  ⟨⟨(cell_of_row W g 0 _ t (0, 0) h).trans rfl, (cell_of_row W g 1 _ t (0, 0) h).trans rfl, (cell_of_row W g 2 _ t (0, 0) h).trans rfl⟩, fun j => frozen_of_row W g j _ t h⟩

set_option maxHeartbeats 2000000 in
theorem room_no (bb : Nat) (x y : Value) (sz : Int) (so ao : Option Addr) (sn sc an ac : Nat) (w : World) (hb : w.heap[bb]? = some (.cells #[x, y, .int .i64 sz] 28 (0, 0))) (hz : 33554432 < sz) :
    Calls Try.prog 24 #[.pointer (some ⟨bb, 0, none⟩), .agg #[.slice so sn sc, .slice ao an ac]] w fun e w' => e = .returned (.bool false) ∧ Below w.heap.size w w' := by
  have k0 := box_below w (.cells #[.slice so sn sc, .slice ao an ac] 36)
  obtain ⟨⟨_, _, c2⟩, _⟩ := box3 ((k0.block bb (Array.getElem?_eq_some_iff.1 hb).1).trans hb)
  have t1 : decide (33554432 < sz) = true := by simp [hz]
  go_enter Try.func24, Try.ntmps24
  go_wp2
  go_ret
  exact ⟨rfl, k0⟩
set_option maxHeartbeats 2000000 in
theorem room_yes (bb : Nat) (x y : Value) (sz : Int) (so ao : Option Addr) (sn sc an ac : Nat) (w : World) (hb : w.heap[bb]? = some (.cells #[x, y, .int .i64 sz] 28 (0, 0))) (hz : ¬ 33554432 < sz) (hz0 : 0 ≤ sz) (hs : sn * 8 ≤ 140737488351232) (ha : an * 8 ≤ 140737488351232) (hsc : sc ≤ 9223372036854775807) (hac : ac ≤ 9223372036854775807) :
    Calls Try.prog 24 #[.pointer (some ⟨bb, 0, none⟩), .agg #[.slice so sn sc, .slice ao an ac]] w fun e w' => e = .returned (.bool true) ∧ ∃ sz' : Int, sz + 800 ≤ sz' ∧ sz' ≤ 1125899906842624 ∧ w'.heap[bb]? = some (.cells #[x, y, .int .i64 sz'] 28 (0, 0)) ∧ Chg (fun k => k = bb) w w' := by
  have k0 := box_below w (.cells #[.slice so sn sc, .slice ao an ac] 36)
  have B0 := (k0.block bb (Array.getElem?_eq_some_iff.1 hb).1).trans hb
  have X0 := allocNew w (.cells #[.slice so sn sc, .slice ao an ac] 36)
  go_enter Try.func24, Try.ntmps24
  go_upto_region 1 with fail
  generalize w.heap.size = gx at *
  have HC : Hid (Chg (fun k => k = bb) w (w.alloc (.cells #[.slice so sn sc, .slice ao an ac] 36))) := Chg.of_below (box_below w _) (Nat.le_refl _) _
  generalize w.alloc (.cells #[.slice so sn sc, .slice ao an ac] 36) = V at *
  have t1 : decide (33554432 < sz) = false := by simp [hz]
  have cF1 := fun V => far_any sn sc V (by omega)
  have cF2 := fun V => far_any an ac V (by omega)
  have f1 := fr_le sn sc
  have f2 := fr_le an ac
  obtain ⟨⟨b0, b1, b2⟩, bf⟩ := box3 B0
  obtain ⟨x0, x1, _, _⟩ := box2 X0
  have w1 : IntKind.i64.wrap (sz + 800) = sz + 800 := by rw [IntKind.wrap_i64]; omega
  have w2 : IntKind.i64.wrap (8 * (fr sn sc : Int)) = 8 * (fr sn sc : Int) := by rw [IntKind.wrap_i64]; omega
  have w3 : IntKind.i64.wrap (8 * (fr an ac : Int)) = 8 * (fr an ac : Int) := by rw [IntKind.wrap_i64]; omega
  have w4 : IntKind.i64.wrap (sz + 800 + 8 * (fr sn sc : Int)) = sz + 800 + 8 * (fr sn sc : Int) := by rw [IntKind.wrap_i64]; omega
  have w5 : IntKind.i64.wrap (sz + 800 + 8 * (fr sn sc : Int) + 8 * (fr an ac : Int)) = sz + 800 + 8 * (fr sn sc : Int) + 8 * (fr an ac : Int) := by rw [IntKind.wrap_i64]; omega
  have HS : V.drew.cell? ⟨bb, 2, none⟩ = some (.int .i64 sz) ∧ V.drew.cell? ⟨gx, 0, none⟩ = some (.slice so sn sc) ∧ V.drew.cell? ⟨gx, 1, none⟩ = some (.slice ao an ac) := ⟨b2, x0, x1⟩
  have HB : Hid (V.heap[bb]? = some (.cells #[x, y, .int .i64 sz] 28 (0, 0))) := B0
  have HZ : Hid (0 ≤ sz ∧ ¬ 33554432 < sz ∧ fr sn sc ≤ sn + 70000 ∧ fr an ac ≤ an + 70000 ∧ sn * 8 ≤ 140737488351232 ∧ an * 8 ≤ 140737488351232) := ⟨hz0, hz, f1, f2, hs, ha⟩
  clear hb X0 B0 f1 f2 hs ha hz hz0
  go_upto_region 3 with fail
  refine wp_region_R (fun V => V.cell? ⟨bb, 2, none⟩ = some (.int .i64 sz) ∧ V.cell? ⟨gx, 0, none⟩ = some (.slice so sn sc) ∧ V.cell? ⟨gx, 1, none⟩ = some (.slice ao an ac)) (fun i => i != 26) (by kernel_rfl) ?_
  refine wpAnyR_take (i := 0) (v := .pointer (some ⟨bb, 0, none⟩)) rfl (by kernel_rfl) (by kernel_rfl) (by kernel_rfl) (by kernel_rfl) (fun _ _ _ h => h) (Or.inl ⟨by rfl, fun V hV => ?_⟩) ?_ ?_
  · obtain ⟨g0, g1, g2⟩ := hV
    go_simp
  · exact HS
  conv => arg 9; simp [Act.put]
  refine wpAnyR_take (i := 1) (v := .pointer (some ⟨bb, 0, none⟩)) rfl (by kernel_rfl) (by kernel_rfl) (by kernel_rfl) (by kernel_rfl) (fun _ _ _ h => h) (Or.inl ⟨by rfl, fun V hV => ?_⟩) ?_ ?_
  · obtain ⟨g0, g1, g2⟩ := hV
    go_simp
  · exact HS
  conv => arg 9; simp [Act.put]
  refine wpAnyR_take (i := 2) (v := .pointer (some ⟨bb, 0, none⟩)) rfl (by kernel_rfl) (by kernel_rfl) (by kernel_rfl) (by kernel_rfl) (fun _ _ _ h => h) (Or.inl ⟨by rfl, fun V hV => ?_⟩) ?_ ?_
  · obtain ⟨g0, g1, g2⟩ := hV
    go_simp
  · exact HS
  conv => arg 9; simp [Act.put]
  refine wpAnyR_take (i := 3) (v := .pointer (some ⟨bb, 2, none⟩)) rfl (by kernel_rfl) (by kernel_rfl) (by kernel_rfl) (by kernel_rfl) (fun _ _ _ h => h) (Or.inl ⟨by rfl, fun V hV => ?_⟩) ?_ ?_
  · obtain ⟨g0, g1, g2⟩ := hV
    go_simp
  · exact HS
  conv => arg 9; simp [Act.put]
  refine wpAnyR_take (i := 4) (v := .int .i64 sz) rfl (by kernel_rfl) (by kernel_rfl) (by kernel_rfl) (by kernel_rfl) (fun _ _ _ h => h) (Or.inl ⟨by rfl, fun V hV => ?_⟩) ?_ ?_
  · obtain ⟨g0, g1, g2⟩ := hV
    go_simp
  · exact HS
  conv => arg 9; simp [Act.put]
  refine wpAnyR_take (i := 5) (v := .int .i64 (sz + 800)) rfl (by kernel_rfl) (by kernel_rfl) (by kernel_rfl) (by kernel_rfl) (fun _ _ _ h => h) (Or.inl ⟨by rfl, fun V hV => ?_⟩) ?_ ?_
  · obtain ⟨g0, g1, g2⟩ := hV
    go_simp
  · exact HS
  conv => arg 9; simp [Act.put]
  refine wpAnyR_take (i := 6) (v := .pointer (some ⟨gx, 0, none⟩)) rfl (by kernel_rfl) (by kernel_rfl) (by kernel_rfl) (by kernel_rfl) (fun _ _ _ h => h) (Or.inl ⟨by rfl, fun V hV => ?_⟩) ?_ ?_
  · obtain ⟨g0, g1, g2⟩ := hV
    go_simp
  · exact HS
  conv => arg 9; simp [Act.put]
  refine wpAnyR_take (i := 7) (v := .slice so sn sc) rfl (by kernel_rfl) (by kernel_rfl) (by kernel_rfl) (by kernel_rfl) (fun _ _ _ h => h) (Or.inl ⟨by rfl, fun V hV => ?_⟩) ?_ ?_
  · obtain ⟨g0, g1, g2⟩ := hV
    go_simp
  · exact HS
  conv => arg 9; simp [Act.put]
  refine wpAnyR_take (i := 8) (v := .int .i64 (sn : Int)) rfl (by kernel_rfl) (by kernel_rfl) (by kernel_rfl) (by kernel_rfl) (fun _ _ _ h => h) (Or.inl ⟨by rfl, fun V hV => ?_⟩) ?_ ?_
  · obtain ⟨g0, g1, g2⟩ := hV
    go_simp
  · exact HS
  conv => arg 9; simp [Act.put]
  refine wpAnyR_take (i := 9) (v := .pointer (some ⟨gx, 0, none⟩)) rfl (by kernel_rfl) (by kernel_rfl) (by kernel_rfl) (by kernel_rfl) (fun _ _ _ h => h) (Or.inl ⟨by rfl, fun V hV => ?_⟩) ?_ ?_
  · obtain ⟨g0, g1, g2⟩ := hV
    go_simp
  · exact HS
  conv => arg 9; simp [Act.put]
  refine wpAnyR_take (i := 10) (v := .slice so sn sc) rfl (by kernel_rfl) (by kernel_rfl) (by kernel_rfl) (by kernel_rfl) (fun _ _ _ h => h) (Or.inl ⟨by rfl, fun V hV => ?_⟩) ?_ ?_
  · obtain ⟨g0, g1, g2⟩ := hV
    go_simp
  · exact HS
  conv => arg 9; simp [Act.put]
  refine wpAnyR_take (i := 11) (v := .int .i64 (sc : Int)) rfl (by kernel_rfl) (by kernel_rfl) (by kernel_rfl) (by kernel_rfl) (fun _ _ _ h => h) (Or.inl ⟨by rfl, fun V hV => ?_⟩) ?_ ?_
  · obtain ⟨g0, g1, g2⟩ := hV
    go_simp
  · exact HS
  conv => arg 9; simp [Act.put]
  refine wpAnyR_take (i := 15) (v := .pointer (some ⟨gx, 1, none⟩)) rfl (by kernel_rfl) (by kernel_rfl) (by kernel_rfl) (by kernel_rfl) (fun _ _ _ h => h) (Or.inl ⟨by rfl, fun V hV => ?_⟩) ?_ ?_
  · obtain ⟨g0, g1, g2⟩ := hV
    go_simp
  · exact HS
  conv => arg 9; simp [Act.put]
  refine wpAnyR_take (i := 16) (v := .slice ao an ac) rfl (by kernel_rfl) (by kernel_rfl) (by kernel_rfl) (by kernel_rfl) (fun _ _ _ h => h) (Or.inl ⟨by rfl, fun V hV => ?_⟩) ?_ ?_
  · obtain ⟨g0, g1, g2⟩ := hV
    go_simp
  · exact HS
  conv => arg 9; simp [Act.put]
  refine wpAnyR_take (i := 17) (v := .int .i64 (an : Int)) rfl (by kernel_rfl) (by kernel_rfl) (by kernel_rfl) (by kernel_rfl) (fun _ _ _ h => h) (Or.inl ⟨by rfl, fun V hV => ?_⟩) ?_ ?_
  · obtain ⟨g0, g1, g2⟩ := hV
    go_simp
  · exact HS
  conv => arg 9; simp [Act.put]
  refine wpAnyR_take (i := 18) (v := .pointer (some ⟨gx, 1, none⟩)) rfl (by kernel_rfl) (by kernel_rfl) (by kernel_rfl) (by kernel_rfl) (fun _ _ _ h => h) (Or.inl ⟨by rfl, fun V hV => ?_⟩) ?_ ?_
  · obtain ⟨g0, g1, g2⟩ := hV
    go_simp
  · exact HS
  conv => arg 9; simp [Act.put]
  refine wpAnyR_take (i := 19) (v := .slice ao an ac) rfl (by kernel_rfl) (by kernel_rfl) (by kernel_rfl) (by kernel_rfl) (fun _ _ _ h => h) (Or.inl ⟨by rfl, fun V hV => ?_⟩) ?_ ?_
  · obtain ⟨g0, g1, g2⟩ := hV
    go_simp
  · exact HS
  conv => arg 9; simp [Act.put]
  refine wpAnyR_take (i := 20) (v := .int .i64 (ac : Int)) rfl (by kernel_rfl) (by kernel_rfl) (by kernel_rfl) (by kernel_rfl) (fun _ _ _ h => h) (Or.inl ⟨by rfl, fun V hV => ?_⟩) ?_ ?_
  · obtain ⟨g0, g1, g2⟩ := hV
    go_simp
  · exact HS
  conv => arg 9; simp [Act.put]
  refine wpAnyR_one (i := 12) (by kernel_rfl) rfl (fun K hK => ?_)
  go_simp
  go_wp2_with (go_at_call 25; (with_reducible refine (cF1 _).mono ?_); rintro e V1 ⟨rfl, hV1⟩; rw [hV1]; clear hV1; refine hK _ _ ⟨fun _ => HS, ?_⟩; clear hK)
  conv => arg 9; simp [Act.put]
  refine wpAnyR_take (i := 13) (v := .int .i64 (8 * (fr sn sc : Int))) rfl (by kernel_rfl) (by kernel_rfl) (by kernel_rfl) (by kernel_rfl) (fun _ _ _ h => h) (Or.inl ⟨by rfl, fun V hV => ?_⟩) ?_ ?_
  · obtain ⟨g0, g1, g2⟩ := hV
    go_simp
  · exact HS
  conv => arg 9; simp [Act.put]
  refine wpAnyR_take (i := 14) (v := .int .i64 (sz + 800 + 8 * (fr sn sc : Int))) rfl (by kernel_rfl) (by kernel_rfl) (by kernel_rfl) (by kernel_rfl) (fun _ _ _ h => h) (Or.inl ⟨by rfl, fun V hV => ?_⟩) ?_ ?_
  · obtain ⟨g0, g1, g2⟩ := hV
    go_simp
  · exact HS
  conv => arg 9; simp [Act.put]
  refine wpAnyR_one (i := 21) (by kernel_rfl) rfl (fun K hK => ?_)
  go_simp
  go_wp2_with (go_at_call 25; (with_reducible refine (cF2 _).mono ?_); rintro e V1 ⟨rfl, hV1⟩; rw [hV1]; clear hV1; refine hK _ _ ⟨fun _ => HS, ?_⟩; clear hK)
  conv => arg 9; simp [Act.put]
  refine wpAnyR_take (i := 22) (v := .int .i64 (8 * (fr an ac : Int))) rfl (by kernel_rfl) (by kernel_rfl) (by kernel_rfl) (by kernel_rfl) (fun _ _ _ h => h) (Or.inl ⟨by rfl, fun V hV => ?_⟩) ?_ ?_
  · obtain ⟨g0, g1, g2⟩ := hV
    go_simp
  · exact HS
  conv => arg 9; simp [Act.put]
  refine wpAnyR_take (i := 23) (v := .int .i64 (sz + 800 + 8 * (fr sn sc : Int) + 8 * (fr an ac : Int))) rfl (by kernel_rfl) (by kernel_rfl) (by kernel_rfl) (by kernel_rfl) (fun _ _ _ h => h) (Or.inl ⟨by rfl, fun V hV => ?_⟩) ?_ ?_
  · obtain ⟨g0, g1, g2⟩ := hV
    go_simp
  · exact HS
  conv => arg 9; simp [Act.put]
  refine wpAnyR_one (i := 24) (by kernel_rfl) rfl (fun K hK => ?_)
  go_simp
  refine hK _ _ ⟨fun _ => HS, ?_⟩
  clear hK
  conv => arg 9; simp [Act.put]
  refine wpAnyR_one (i := 25) (by kernel_rfl) rfl (fun K hK => ?_)
  go_simp
  refine hK _ _ ⟨fun _ => HS, ?_⟩
  clear hK
  conv => arg 9; simp [Act.put]
  refine wpAnyR_one (i := 26) (by kernel_rfl) rfl (fun K hK => ?_)
  go_simp
  refine hK _ _ ⟨fun h => absurd h (by decide), ?_⟩
  clear hK
  refine wpAnyR_done (by kernel_rfl) ?_ _
  go_wp2
  go_ret
  obtain ⟨z0, z1, z2, z3, z4, z5⟩ := HZ.out
  refine ⟨rfl, sz + 800 + 8 * (fr sn sc : Int) + 8 * (fr an ac : Int), by omega, by omega, ?_, ?_⟩
  · have := heap_setCell_same V.drew bb 2 #[x, y, .int .i64 sz] 28 (.int .i64 (sz + 800 + 8 * (fr sn sc : Int) + 8 * (fr an ac : Int))) HB.out
    exact this
  · have k := Chg.of_grown (set1 V.drew bb 2 (.int .i64 (sz + 800 + 8 * (fr sn sc : Int) + 8 * (fr an ac : Int))))
    exact HC.out.trans ((Chg.of_below (Below.refl V.heap.size V).drew (Nat.le_refl _) _).trans (k.mono fun j _ e => (Option.some.inj e).symm))
end Go.Proofs.Ythncgocjegalhaa
