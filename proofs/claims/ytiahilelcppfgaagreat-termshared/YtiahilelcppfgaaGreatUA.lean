
/- TermAll: a call is as the document says: the plain ones. -/

import Derived.Test.YtiahilelcppfgaaGreatST

import Derived.Test.YtiahilelcppfgaaGreatSM

import Derived.Test.YtiahilelcppfgaaGreatSL

import Derived.Test.YtiahilelcppfgaaGreatSF

import Derived.Test.YtiahilelcppfgaaGreatTY

namespace Go.Proofs.YtiahilelcppfgaaGreat

open Go.RowKit

set_option linter.unusedVariables false

theorem box14 {W : World} {g : Nat} {c0 c1 c2 c3 c4 c5 c6 c7 c8 c9 c10 c11 c12 c13 : Value} {t : TypeId} (h : W.heap[g]? = some (.cells #[c0, c1, c2, c3, c4, c5, c6, c7, c8, c9, c10, c11, c12, c13] t (0, 0))) :
    W.cell? ⟨g, 0, none⟩ = some c0 ∧ W.cell? ⟨g, 1, none⟩ = some c1 ∧ W.cell? ⟨g, 2, none⟩ = some c2 ∧ W.cell? ⟨g, 3, none⟩ = some c3 ∧ W.cell? ⟨g, 4, none⟩ = some c4 ∧ W.cell? ⟨g, 5, none⟩ = some c5 ∧ W.cell? ⟨g, 6, none⟩ = some c6 ∧ W.cell? ⟨g, 7, none⟩ = some c7 ∧ W.cell? ⟨g, 8, none⟩ = some c8 ∧ W.cell? ⟨g, 9, none⟩ = some c9 ∧ W.cell? ⟨g, 10, none⟩ = some c10 ∧ W.cell? ⟨g, 11, none⟩ = some c11 ∧ W.cell? ⟨g, 12, none⟩ = some c12 ∧ W.cell? ⟨g, 13, none⟩ = some c13 :=
  ⟨(cell_of_row W g 0 _ t (0, 0) h).trans rfl, (cell_of_row W g 1 _ t (0, 0) h).trans rfl, (cell_of_row W g 2 _ t (0, 0) h).trans rfl, (cell_of_row W g 3 _ t (0, 0) h).trans rfl, (cell_of_row W g 4 _ t (0, 0) h).trans rfl, (cell_of_row W g 5 _ t (0, 0) h).trans rfl, (cell_of_row W g 6 _ t (0, 0) h).trans rfl, (cell_of_row W g 7 _ t (0, 0) h).trans rfl, (cell_of_row W g 8 _ t (0, 0) h).trans rfl, (cell_of_row W g 9 _ t (0, 0) h).trans rfl, (cell_of_row W g 10 _ t (0, 0) h).trans rfl, (cell_of_row W g 11 _ t (0, 0) h).trans rfl, (cell_of_row W g 12 _ t (0, 0) h).trans rfl, (cell_of_row W g 13 _ t (0, 0) h).trans rfl⟩
set_option linter.unusedSimpArgs false in
set_option maxRecDepth 100000 in
set_option maxHeartbeats 4000000 in
theorem play_0 (k : Int) (hk : ¬ k = 1 ∧ ¬ k = 2 ∧ ¬ k = 3 ∧ ¬ k = 4 ∧ ¬ k = 5 ∧ ¬ k = 6) (k1 n1 k2 n2 c : Int) (t1 t2 : ByteArray) (so1 ao1 uo1 so2 ao2 uo2 : Option Addr) (sn1 sc1 an1 ac1 un1 uc1 sn2 sc2 an2 ac2 un2 uc2 : Nat) (w : World) :
    Calls Tryz.prog 10 #[.agg #[.int .i64 k, .int .i64 k1, .string t1, .int .i64 n1, .slice so1 sn1 sc1, .slice ao1 an1 ac1, .slice uo1 un1 uc1, .int .i64 k2, .string t2, .int .i64 n2, .slice so2 sn2 sc2, .slice ao2 an2 ac2, .slice uo2 un2 uc2, .int .i64 c]] w fun e w' => e = .returned (.bool true) ∧ Below w.heap.size w w' := by
  obtain ⟨h1, h2, h3, h4, h5, h6⟩ := hk
  have k0 := box_below w (.cells #[.int .i64 k, .int .i64 k1, .string t1, .int .i64 n1, .slice so1 sn1 sc1, .slice ao1 an1 ac1, .slice uo1 un1 uc1, .int .i64 k2, .string t2, .int .i64 n2, .slice so2 sn2 sc2, .slice ao2 an2 ac2, .slice uo2 un2 uc2, .int .i64 c] 33)
  obtain ⟨q0, q1, q2, q3, q4, q5, q6, q7, q8, q9, q10, q11, q12, q13⟩ := box14 (allocNew w (.cells #[.int .i64 k, .int .i64 k1, .string t1, .int .i64 n1, .slice so1 sn1 sc1, .slice ao1 an1 ac1, .slice uo1 un1 uc1, .int .i64 k2, .string t2, .int .i64 n2, .slice so2 sn2 sc2, .slice ao2 an2 ac2, .slice uo2 un2 uc2, .int .i64 c] 33))
  have f1 : (k == 1) = false := by simp [h1]
  have f2 : (k == 2) = false := by simp [h2]
  have f3 : (k == 3) = false := by simp [h3]
  have f4 : (k == 4) = false := by simp [h4]
  have f5 : (k == 5) = false := by simp [h5]
  have f6 : (k == 6) = false := by simp [h6]
  clear h1 h2 h3 h4 h5 h6
  go_enter Tryz.func10, Tryz.ntmps10
  go_wp2
  go_ret
  exact ⟨rfl, k0⟩
set_option linter.unusedSimpArgs false in
set_option maxRecDepth 100000 in
set_option maxHeartbeats 4000000 in
theorem play_1 (d e : Nat) (x : Tr (d + 1)) (y : Tr (e + 1)) (k1 n1 k2 n2 c : Int) (t1 t2 : ByteArray) (so1 ao1 uo1 so2 ao2 uo2 : Option Addr) (sn1 sc1 an1 ac1 un1 uc1 sn2 sc2 an2 ac2 un2 uc2 : Nat) (w : World) (hT : Tv w (d + 1) x [.int .i64 k1, .string t1, .int .i64 n1, .slice so1 sn1 sc1, .slice ao1 an1 ac1, .slice uo1 un1 uc1]) (hU : Tv w (e + 1) y [.int .i64 k2, .string t2, .int .i64 n2, .slice so2 sn2 sc2, .slice ao2 an2 ac2, .slice uo2 un2 uc2]) :
    Calls Tryz.prog 10 #[.agg #[.int .i64 1, .int .i64 k1, .string t1, .int .i64 n1, .slice so1 sn1 sc1, .slice ao1 an1 ac1, .slice uo1 un1 uc1, .int .i64 k2, .string t2, .int .i64 n2, .slice so2 sn2 sc2, .slice ao2 an2 ac2, .slice uo2 un2 uc2, .int .i64 c]] w fun e w' => e = .returned (.bool true) ∧ Below w.heap.size w w' := by
  have k0 := box_below w (.cells #[.int .i64 1, .int .i64 k1, .string t1, .int .i64 n1, .slice so1 sn1 sc1, .slice ao1 an1 ac1, .slice uo1 un1 uc1, .int .i64 k2, .string t2, .int .i64 n2, .slice so2 sn2 sc2, .slice ao2 an2 ac2, .slice uo2 un2 uc2, .int .i64 c] 33)
  have box := allocNew w (.cells #[.int .i64 1, .int .i64 k1, .string t1, .int .i64 n1, .slice so1 sn1 sc1, .slice ao1 an1 ac1, .slice uo1 un1 uc1, .int .i64 k2, .string t2, .int .i64 n2, .slice so2 sn2 sc2, .slice ao2 an2 ac2, .slice uo2 un2 uc2, .int .i64 c] 33)
  have HS : Hid (∀ V, Below (w.alloc (.cells #[.int .i64 1, .int .i64 k1, .string t1, .int .i64 n1, .slice so1 sn1 sc1, .slice ao1 an1 ac1, .slice uo1 un1 uc1, .int .i64 k2, .string t2, .int .i64 n2, .slice so2 sn2 sc2, .slice ao2 an2 ac2, .slice uo2 un2 uc2, .int .i64 c] 33)).heap.size (w.alloc (.cells #[.int .i64 1, .int .i64 k1, .string t1, .int .i64 n1, .slice so1 sn1 sc1, .slice ao1 an1 ac1, .slice uo1 un1 uc1, .int .i64 k2, .string t2, .int .i64 n2, .slice so2 sn2 sc2, .slice ao2 an2 ac2, .slice uo2 un2 uc2, .int .i64 c] 33)) V → V.cell? ⟨w.heap.size, 0, none⟩ = some (.int .i64 1) ∧ V.cell? ⟨w.heap.size, 1, none⟩ = some (.int .i64 k1) ∧ V.cell? ⟨w.heap.size, 2, none⟩ = some (.string t1) ∧ V.cell? ⟨w.heap.size, 3, none⟩ = some (.int .i64 n1) ∧ V.cell? ⟨w.heap.size, 4, none⟩ = some (.slice so1 sn1 sc1) ∧ V.cell? ⟨w.heap.size, 5, none⟩ = some (.slice ao1 an1 ac1) ∧ V.cell? ⟨w.heap.size, 6, none⟩ = some (.slice uo1 un1 uc1) ∧ V.cell? ⟨w.heap.size, 7, none⟩ = some (.int .i64 k2) ∧ V.cell? ⟨w.heap.size, 8, none⟩ = some (.string t2) ∧ V.cell? ⟨w.heap.size, 9, none⟩ = some (.int .i64 n2) ∧ V.cell? ⟨w.heap.size, 10, none⟩ = some (.slice so2 sn2 sc2) ∧ V.cell? ⟨w.heap.size, 11, none⟩ = some (.slice ao2 an2 ac2) ∧ V.cell? ⟨w.heap.size, 12, none⟩ = some (.slice uo2 un2 uc2) ∧ V.cell? ⟨w.heap.size, 13, none⟩ = some (.int .i64 c)) := fun V hV => box14 ((hV.block w.heap.size (by simp)).trans box)
  obtain ⟨q0, q1, q2, q3, q4, q5, q6, q7, q8, q9, q10, q11, q12, q13⟩ := HS.out _ (Below.refl _ _)
  have hc1 := fun V (hV : Below w.heap.size w V) => tmay_any (d + 1) x _ _ _ _ _ _ c V (Tv.below hV (Nat.le_refl _) _ _ _ hT)
  have hc2 := fun V (hV : Below w.heap.size w V) => rmay_any d x _ _ _ _ _ _ c V (Tv.below hV (Nat.le_refl _) _ _ _ hT)
  generalize mayT (d + 1) x c = R at *
  go_enter Tryz.func10, Tryz.ntmps10
  go_upto_region 3 with fail
  generalize hW : (w.alloc (.cells #[.int .i64 1, .int .i64 k1, .string t1, .int .i64 n1, .slice so1 sn1 sc1, .slice ao1 an1 ac1, .slice uo1 un1 uc1, .int .i64 k2, .string t2, .int .i64 n2, .slice so2 sn2 sc2, .slice ao2 an2 ac2, .slice uo2 un2 uc2, .int .i64 c] 33)) = W at *
  clear hW box
  clear hT hU
  have B4 := (Below.refl W.heap.size W).drew
  refine wp_region_R (fun V => V.cell? ⟨w.heap.size, 0, none⟩ = some (.int .i64 1) ∧ V.cell? ⟨w.heap.size, 1, none⟩ = some (.int .i64 k1) ∧ V.cell? ⟨w.heap.size, 2, none⟩ = some (.string t1) ∧ V.cell? ⟨w.heap.size, 3, none⟩ = some (.int .i64 n1) ∧ V.cell? ⟨w.heap.size, 4, none⟩ = some (.slice so1 sn1 sc1) ∧ V.cell? ⟨w.heap.size, 5, none⟩ = some (.slice ao1 an1 ac1) ∧ V.cell? ⟨w.heap.size, 6, none⟩ = some (.slice uo1 un1 uc1) ∧ V.cell? ⟨w.heap.size, 7, none⟩ = some (.int .i64 k2) ∧ V.cell? ⟨w.heap.size, 8, none⟩ = some (.string t2) ∧ V.cell? ⟨w.heap.size, 9, none⟩ = some (.int .i64 n2) ∧ V.cell? ⟨w.heap.size, 10, none⟩ = some (.slice so2 sn2 sc2) ∧ V.cell? ⟨w.heap.size, 11, none⟩ = some (.slice ao2 an2 ac2) ∧ V.cell? ⟨w.heap.size, 12, none⟩ = some (.slice uo2 un2 uc2) ∧ V.cell? ⟨w.heap.size, 13, none⟩ = some (.int .i64 c)) (fun _ => true) (by kernel_rfl) ?_
  refine wpAnyR_take (i := 0) (v := .pointer (some ⟨w.heap.size, 1, none⟩)) rfl (by kernel_rfl) (by kernel_rfl) (by kernel_rfl) (by kernel_rfl) (fun _ _ _ h => h) (Or.inl ⟨by rfl, fun V hV => ?_⟩) ?_ ?_
  · obtain ⟨g0, g1, g2, g3, g4, g5, g6, g7, g8, g9, g10, g11, g12, g13⟩ := hV
    go_simp
  · exact HS.out _ (Below.refl _ W).drew
  conv => arg 9; simp [Act.put]
  refine wpAnyR_take (i := 1) (v := .agg #[.int .i64 k1, .string t1, .int .i64 n1, .slice so1 sn1 sc1, .slice ao1 an1 ac1, .slice uo1 un1 uc1]) rfl (by kernel_rfl) (by kernel_rfl) (by kernel_rfl) (by kernel_rfl) (fun _ _ _ h => h) (Or.inl ⟨by rfl, fun V hV => ?_⟩) ?_ ?_
  · obtain ⟨g0, g1, g2, g3, g4, g5, g6, g7, g8, g9, g10, g11, g12, g13⟩ := hV
    go_simp
  · exact HS.out _ (Below.refl _ W).drew
  conv => arg 9; simp [Act.put]
  refine wpAnyR_take (i := 2) (v := .pointer (some ⟨w.heap.size, 13, none⟩)) rfl (by kernel_rfl) (by kernel_rfl) (by kernel_rfl) (by kernel_rfl) (fun _ _ _ h => h) (Or.inl ⟨by rfl, fun V hV => ?_⟩) ?_ ?_
  · obtain ⟨g0, g1, g2, g3, g4, g5, g6, g7, g8, g9, g10, g11, g12, g13⟩ := hV
    go_simp
  · exact HS.out _ (Below.refl _ W).drew
  conv => arg 9; simp [Act.put]
  refine wpAnyR_take (i := 3) (v := .int .i64 c) rfl (by kernel_rfl) (by kernel_rfl) (by kernel_rfl) (by kernel_rfl) (fun _ _ _ h => h) (Or.inl ⟨by rfl, fun V hV => ?_⟩) ?_ ?_
  · obtain ⟨g0, g1, g2, g3, g4, g5, g6, g7, g8, g9, g10, g11, g12, g13⟩ := hV
    go_simp
  · exact HS.out _ (Below.refl _ W).drew
  conv => arg 9; simp [Act.put]
  refine wpAnyR_take (i := 5) (v := .pointer (some ⟨w.heap.size, 1, none⟩)) rfl (by kernel_rfl) (by kernel_rfl) (by kernel_rfl) (by kernel_rfl) (fun _ _ _ h => h) (Or.inl ⟨by rfl, fun V hV => ?_⟩) ?_ ?_
  · obtain ⟨g0, g1, g2, g3, g4, g5, g6, g7, g8, g9, g10, g11, g12, g13⟩ := hV
    go_simp
  · exact HS.out _ (Below.refl _ W).drew
  conv => arg 9; simp [Act.put]
  refine wpAnyR_take (i := 6) (v := .agg #[.int .i64 k1, .string t1, .int .i64 n1, .slice so1 sn1 sc1, .slice ao1 an1 ac1, .slice uo1 un1 uc1]) rfl (by kernel_rfl) (by kernel_rfl) (by kernel_rfl) (by kernel_rfl) (fun _ _ _ h => h) (Or.inl ⟨by rfl, fun V hV => ?_⟩) ?_ ?_
  · obtain ⟨g0, g1, g2, g3, g4, g5, g6, g7, g8, g9, g10, g11, g12, g13⟩ := hV
    go_simp
  · exact HS.out _ (Below.refl _ W).drew
  conv => arg 9; simp [Act.put]
  refine wpAnyR_take (i := 7) (v := .pointer (some ⟨w.heap.size, 13, none⟩)) rfl (by kernel_rfl) (by kernel_rfl) (by kernel_rfl) (by kernel_rfl) (fun _ _ _ h => h) (Or.inl ⟨by rfl, fun V hV => ?_⟩) ?_ ?_
  · obtain ⟨g0, g1, g2, g3, g4, g5, g6, g7, g8, g9, g10, g11, g12, g13⟩ := hV
    go_simp
  · exact HS.out _ (Below.refl _ W).drew
  conv => arg 9; simp [Act.put]
  refine wpAnyR_take (i := 8) (v := .int .i64 c) rfl (by kernel_rfl) (by kernel_rfl) (by kernel_rfl) (by kernel_rfl) (fun _ _ _ h => h) (Or.inl ⟨by rfl, fun V hV => ?_⟩) ?_ ?_
  · obtain ⟨g0, g1, g2, g3, g4, g5, g6, g7, g8, g9, g10, g11, g12, g13⟩ := hV
    go_simp
  · exact HS.out _ (Below.refl _ W).drew
  conv => arg 9; simp [Act.put]
  refine wpAnyR_one (i := 4) (by kernel_rfl) rfl (fun K hK => ?_)
  go_simp
  go_at_call 12
  with_reducible refine (hc1 _ (k0.trans (B4.mono k0.size))).mono ?_
  rintro e w5 ⟨rfl, b5⟩
  have B5 := B4.trans (b5.mono B4.size)
  refine hK _ _ ⟨fun _ => HS.out w5 B5, ?_⟩
  clear hK
  (try (conv => arg 9; simp [Act.put]))
  refine wpAnyR_one (i := 9) (by kernel_rfl) rfl (fun K hK => ?_)
  go_simp
  go_at_call 28
  with_reducible refine (hc2 _ (k0.trans (B5.mono k0.size))).mono ?_
  rintro e w6 ⟨rfl, b6⟩
  have B6 := B5.trans (b6.mono B5.size)
  refine hK _ _ ⟨fun _ => HS.out w6 B6, ?_⟩
  clear hK
  (try (conv => arg 9; simp [Act.put]))
  refine wpAnyR_one (i := 10) (by kernel_rfl) rfl (fun K hK => ?_)
  go_simp
  refine hK _ _ ⟨fun _ => HS.out w6 B6, ?_⟩
  clear hK
  (try (conv => arg 9; simp [Act.put]))
  refine wpAnyR_one (i := 11) (by kernel_rfl) rfl (fun K hK => ?_)
  go_simp
  refine hK _ _ ⟨fun _ => HS.out w6 B6, ?_⟩
  clear hK
  (try (conv => arg 9; simp [Act.put]))
  refine wpAnyR_done (by kernel_rfl) ?_ _
  go_wp2
  go_ret
  exact ⟨ret_bool (by simp), k0.trans (B6.mono k0.size)⟩
set_option linter.unusedSimpArgs false in
set_option maxRecDepth 100000 in
set_option maxHeartbeats 4000000 in
theorem play_2 (d e : Nat) (x : Tr (d + 1)) (y : Tr (e + 1)) (k1 n1 k2 n2 c : Int) (t1 t2 : ByteArray) (so1 ao1 uo1 so2 ao2 uo2 : Option Addr) (sn1 sc1 an1 ac1 un1 uc1 sn2 sc2 an2 ac2 un2 uc2 : Nat) (w : World) (hT : Tv w (d + 1) x [.int .i64 k1, .string t1, .int .i64 n1, .slice so1 sn1 sc1, .slice ao1 an1 ac1, .slice uo1 un1 uc1]) (hU : Tv w (e + 1) y [.int .i64 k2, .string t2, .int .i64 n2, .slice so2 sn2 sc2, .slice ao2 an2 ac2, .slice uo2 un2 uc2]) :
    Calls Tryz.prog 10 #[.agg #[.int .i64 2, .int .i64 k1, .string t1, .int .i64 n1, .slice so1 sn1 sc1, .slice ao1 an1 ac1, .slice uo1 un1 uc1, .int .i64 k2, .string t2, .int .i64 n2, .slice so2 sn2 sc2, .slice ao2 an2 ac2, .slice uo2 un2 uc2, .int .i64 c]] w fun e w' => e = .returned (.bool true) ∧ Below w.heap.size w w' := by
  have k0 := box_below w (.cells #[.int .i64 2, .int .i64 k1, .string t1, .int .i64 n1, .slice so1 sn1 sc1, .slice ao1 an1 ac1, .slice uo1 un1 uc1, .int .i64 k2, .string t2, .int .i64 n2, .slice so2 sn2 sc2, .slice ao2 an2 ac2, .slice uo2 un2 uc2, .int .i64 c] 33)
  have box := allocNew w (.cells #[.int .i64 2, .int .i64 k1, .string t1, .int .i64 n1, .slice so1 sn1 sc1, .slice ao1 an1 ac1, .slice uo1 un1 uc1, .int .i64 k2, .string t2, .int .i64 n2, .slice so2 sn2 sc2, .slice ao2 an2 ac2, .slice uo2 un2 uc2, .int .i64 c] 33)
  have HS : Hid (∀ V, Below (w.alloc (.cells #[.int .i64 2, .int .i64 k1, .string t1, .int .i64 n1, .slice so1 sn1 sc1, .slice ao1 an1 ac1, .slice uo1 un1 uc1, .int .i64 k2, .string t2, .int .i64 n2, .slice so2 sn2 sc2, .slice ao2 an2 ac2, .slice uo2 un2 uc2, .int .i64 c] 33)).heap.size (w.alloc (.cells #[.int .i64 2, .int .i64 k1, .string t1, .int .i64 n1, .slice so1 sn1 sc1, .slice ao1 an1 ac1, .slice uo1 un1 uc1, .int .i64 k2, .string t2, .int .i64 n2, .slice so2 sn2 sc2, .slice ao2 an2 ac2, .slice uo2 un2 uc2, .int .i64 c] 33)) V → V.cell? ⟨w.heap.size, 0, none⟩ = some (.int .i64 2) ∧ V.cell? ⟨w.heap.size, 1, none⟩ = some (.int .i64 k1) ∧ V.cell? ⟨w.heap.size, 2, none⟩ = some (.string t1) ∧ V.cell? ⟨w.heap.size, 3, none⟩ = some (.int .i64 n1) ∧ V.cell? ⟨w.heap.size, 4, none⟩ = some (.slice so1 sn1 sc1) ∧ V.cell? ⟨w.heap.size, 5, none⟩ = some (.slice ao1 an1 ac1) ∧ V.cell? ⟨w.heap.size, 6, none⟩ = some (.slice uo1 un1 uc1) ∧ V.cell? ⟨w.heap.size, 7, none⟩ = some (.int .i64 k2) ∧ V.cell? ⟨w.heap.size, 8, none⟩ = some (.string t2) ∧ V.cell? ⟨w.heap.size, 9, none⟩ = some (.int .i64 n2) ∧ V.cell? ⟨w.heap.size, 10, none⟩ = some (.slice so2 sn2 sc2) ∧ V.cell? ⟨w.heap.size, 11, none⟩ = some (.slice ao2 an2 ac2) ∧ V.cell? ⟨w.heap.size, 12, none⟩ = some (.slice uo2 un2 uc2) ∧ V.cell? ⟨w.heap.size, 13, none⟩ = some (.int .i64 c)) := fun V hV => box14 ((hV.block w.heap.size (by simp)).trans box)
  obtain ⟨q0, q1, q2, q3, q4, q5, q6, q7, q8, q9, q10, q11, q12, q13⟩ := HS.out _ (Below.refl _ _)
  have hc1 := fun V (hV : Below w.heap.size w V) => class_any k1 n1 t1 (.slice so1 sn1 sc1) (.slice ao1 an1 ac1) (.slice uo1 un1 uc1) V
  have hc2 := fun V (hV : Below w.heap.size w V) => rclass_any k1 n1 t1 (.slice so1 sn1 sc1) (.slice ao1 an1 ac1) (.slice uo1 un1 uc1) V
  generalize clsN k1 = R at *
  go_enter Tryz.func10, Tryz.ntmps10
  go_upto_region 5 with fail
  generalize hW : (w.alloc (.cells #[.int .i64 2, .int .i64 k1, .string t1, .int .i64 n1, .slice so1 sn1 sc1, .slice ao1 an1 ac1, .slice uo1 un1 uc1, .int .i64 k2, .string t2, .int .i64 n2, .slice so2 sn2 sc2, .slice ao2 an2 ac2, .slice uo2 un2 uc2, .int .i64 c] 33)) = W at *
  clear hW box
  clear hT hU
  have B4 := (Below.refl W.heap.size W).drew
  refine wp_region_R (fun V => V.cell? ⟨w.heap.size, 0, none⟩ = some (.int .i64 2) ∧ V.cell? ⟨w.heap.size, 1, none⟩ = some (.int .i64 k1) ∧ V.cell? ⟨w.heap.size, 2, none⟩ = some (.string t1) ∧ V.cell? ⟨w.heap.size, 3, none⟩ = some (.int .i64 n1) ∧ V.cell? ⟨w.heap.size, 4, none⟩ = some (.slice so1 sn1 sc1) ∧ V.cell? ⟨w.heap.size, 5, none⟩ = some (.slice ao1 an1 ac1) ∧ V.cell? ⟨w.heap.size, 6, none⟩ = some (.slice uo1 un1 uc1) ∧ V.cell? ⟨w.heap.size, 7, none⟩ = some (.int .i64 k2) ∧ V.cell? ⟨w.heap.size, 8, none⟩ = some (.string t2) ∧ V.cell? ⟨w.heap.size, 9, none⟩ = some (.int .i64 n2) ∧ V.cell? ⟨w.heap.size, 10, none⟩ = some (.slice so2 sn2 sc2) ∧ V.cell? ⟨w.heap.size, 11, none⟩ = some (.slice ao2 an2 ac2) ∧ V.cell? ⟨w.heap.size, 12, none⟩ = some (.slice uo2 un2 uc2) ∧ V.cell? ⟨w.heap.size, 13, none⟩ = some (.int .i64 c)) (fun _ => true) (by kernel_rfl) ?_
  refine wpAnyR_take (i := 0) (v := .pointer (some ⟨w.heap.size, 1, none⟩)) rfl (by kernel_rfl) (by kernel_rfl) (by kernel_rfl) (by kernel_rfl) (fun _ _ _ h => h) (Or.inl ⟨by rfl, fun V hV => ?_⟩) ?_ ?_
  · obtain ⟨g0, g1, g2, g3, g4, g5, g6, g7, g8, g9, g10, g11, g12, g13⟩ := hV
    go_simp
  · exact HS.out _ (Below.refl _ W).drew
  conv => arg 9; simp [Act.put]
  refine wpAnyR_take (i := 1) (v := .agg #[.int .i64 k1, .string t1, .int .i64 n1, .slice so1 sn1 sc1, .slice ao1 an1 ac1, .slice uo1 un1 uc1]) rfl (by kernel_rfl) (by kernel_rfl) (by kernel_rfl) (by kernel_rfl) (fun _ _ _ h => h) (Or.inl ⟨by rfl, fun V hV => ?_⟩) ?_ ?_
  · obtain ⟨g0, g1, g2, g3, g4, g5, g6, g7, g8, g9, g10, g11, g12, g13⟩ := hV
    go_simp
  · exact HS.out _ (Below.refl _ W).drew
  conv => arg 9; simp [Act.put]
  refine wpAnyR_take (i := 3) (v := .pointer (some ⟨w.heap.size, 1, none⟩)) rfl (by kernel_rfl) (by kernel_rfl) (by kernel_rfl) (by kernel_rfl) (fun _ _ _ h => h) (Or.inl ⟨by rfl, fun V hV => ?_⟩) ?_ ?_
  · obtain ⟨g0, g1, g2, g3, g4, g5, g6, g7, g8, g9, g10, g11, g12, g13⟩ := hV
    go_simp
  · exact HS.out _ (Below.refl _ W).drew
  conv => arg 9; simp [Act.put]
  refine wpAnyR_take (i := 4) (v := .agg #[.int .i64 k1, .string t1, .int .i64 n1, .slice so1 sn1 sc1, .slice ao1 an1 ac1, .slice uo1 un1 uc1]) rfl (by kernel_rfl) (by kernel_rfl) (by kernel_rfl) (by kernel_rfl) (fun _ _ _ h => h) (Or.inl ⟨by rfl, fun V hV => ?_⟩) ?_ ?_
  · obtain ⟨g0, g1, g2, g3, g4, g5, g6, g7, g8, g9, g10, g11, g12, g13⟩ := hV
    go_simp
  · exact HS.out _ (Below.refl _ W).drew
  conv => arg 9; simp [Act.put]
  refine wpAnyR_one (i := 2) (by kernel_rfl) rfl (fun K hK => ?_)
  go_simp
  go_at_call 11
  with_reducible refine (hc1 _ (k0.trans (B4.mono k0.size))).mono ?_
  rintro e w5 ⟨rfl, b5⟩
  have B5 := B4.trans (b5.mono B4.size)
  refine hK _ _ ⟨fun _ => HS.out w5 B5, ?_⟩
  clear hK
  (try (conv => arg 9; simp [Act.put]))
  refine wpAnyR_one (i := 5) (by kernel_rfl) rfl (fun K hK => ?_)
  go_simp
  go_at_call 29
  with_reducible refine (hc2 _ (k0.trans (B5.mono k0.size))).mono ?_
  rintro e w6 ⟨rfl, b6⟩
  have B6 := B5.trans (b6.mono B5.size)
  refine hK _ _ ⟨fun _ => HS.out w6 B6, ?_⟩
  clear hK
  (try (conv => arg 9; simp [Act.put]))
  refine wpAnyR_one (i := 6) (by kernel_rfl) rfl (fun K hK => ?_)
  go_simp
  refine hK _ _ ⟨fun _ => HS.out w6 B6, ?_⟩
  clear hK
  (try (conv => arg 9; simp [Act.put]))
  refine wpAnyR_one (i := 7) (by kernel_rfl) rfl (fun K hK => ?_)
  go_simp
  refine hK _ _ ⟨fun _ => HS.out w6 B6, ?_⟩
  clear hK
  (try (conv => arg 9; simp [Act.put]))
  refine wpAnyR_done (by kernel_rfl) ?_ _
  go_wp2
  go_ret
  exact ⟨ret_bool (by simp), k0.trans (B6.mono k0.size)⟩
set_option linter.unusedSimpArgs false in
set_option maxRecDepth 100000 in
set_option maxHeartbeats 4000000 in
theorem play_4 (d e : Nat) (x : Tr (d + 1)) (y : Tr (e + 1)) (k1 n1 k2 n2 c : Int) (t1 t2 : ByteArray) (so1 ao1 uo1 so2 ao2 uo2 : Option Addr) (sn1 sc1 an1 ac1 un1 uc1 sn2 sc2 an2 ac2 un2 uc2 : Nat) (w : World) (hT : Tv w (d + 1) x [.int .i64 k1, .string t1, .int .i64 n1, .slice so1 sn1 sc1, .slice ao1 an1 ac1, .slice uo1 un1 uc1]) (hU : Tv w (e + 1) y [.int .i64 k2, .string t2, .int .i64 n2, .slice so2 sn2 sc2, .slice ao2 an2 ac2, .slice uo2 un2 uc2]) :
    Calls Tryz.prog 10 #[.agg #[.int .i64 4, .int .i64 k1, .string t1, .int .i64 n1, .slice so1 sn1 sc1, .slice ao1 an1 ac1, .slice uo1 un1 uc1, .int .i64 k2, .string t2, .int .i64 n2, .slice so2 sn2 sc2, .slice ao2 an2 ac2, .slice uo2 un2 uc2, .int .i64 c]] w fun e w' => e = .returned (.bool true) ∧ Below w.heap.size w w' := by
  have k0 := box_below w (.cells #[.int .i64 4, .int .i64 k1, .string t1, .int .i64 n1, .slice so1 sn1 sc1, .slice ao1 an1 ac1, .slice uo1 un1 uc1, .int .i64 k2, .string t2, .int .i64 n2, .slice so2 sn2 sc2, .slice ao2 an2 ac2, .slice uo2 un2 uc2, .int .i64 c] 33)
  have box := allocNew w (.cells #[.int .i64 4, .int .i64 k1, .string t1, .int .i64 n1, .slice so1 sn1 sc1, .slice ao1 an1 ac1, .slice uo1 un1 uc1, .int .i64 k2, .string t2, .int .i64 n2, .slice so2 sn2 sc2, .slice ao2 an2 ac2, .slice uo2 un2 uc2, .int .i64 c] 33)
  have HS : Hid (∀ V, Below (w.alloc (.cells #[.int .i64 4, .int .i64 k1, .string t1, .int .i64 n1, .slice so1 sn1 sc1, .slice ao1 an1 ac1, .slice uo1 un1 uc1, .int .i64 k2, .string t2, .int .i64 n2, .slice so2 sn2 sc2, .slice ao2 an2 ac2, .slice uo2 un2 uc2, .int .i64 c] 33)).heap.size (w.alloc (.cells #[.int .i64 4, .int .i64 k1, .string t1, .int .i64 n1, .slice so1 sn1 sc1, .slice ao1 an1 ac1, .slice uo1 un1 uc1, .int .i64 k2, .string t2, .int .i64 n2, .slice so2 sn2 sc2, .slice ao2 an2 ac2, .slice uo2 un2 uc2, .int .i64 c] 33)) V → V.cell? ⟨w.heap.size, 0, none⟩ = some (.int .i64 4) ∧ V.cell? ⟨w.heap.size, 1, none⟩ = some (.int .i64 k1) ∧ V.cell? ⟨w.heap.size, 2, none⟩ = some (.string t1) ∧ V.cell? ⟨w.heap.size, 3, none⟩ = some (.int .i64 n1) ∧ V.cell? ⟨w.heap.size, 4, none⟩ = some (.slice so1 sn1 sc1) ∧ V.cell? ⟨w.heap.size, 5, none⟩ = some (.slice ao1 an1 ac1) ∧ V.cell? ⟨w.heap.size, 6, none⟩ = some (.slice uo1 un1 uc1) ∧ V.cell? ⟨w.heap.size, 7, none⟩ = some (.int .i64 k2) ∧ V.cell? ⟨w.heap.size, 8, none⟩ = some (.string t2) ∧ V.cell? ⟨w.heap.size, 9, none⟩ = some (.int .i64 n2) ∧ V.cell? ⟨w.heap.size, 10, none⟩ = some (.slice so2 sn2 sc2) ∧ V.cell? ⟨w.heap.size, 11, none⟩ = some (.slice ao2 an2 ac2) ∧ V.cell? ⟨w.heap.size, 12, none⟩ = some (.slice uo2 un2 uc2) ∧ V.cell? ⟨w.heap.size, 13, none⟩ = some (.int .i64 c)) := fun V hV => box14 ((hV.block w.heap.size (by simp)).trans box)
  obtain ⟨q0, q1, q2, q3, q4, q5, q6, q7, q8, q9, q10, q11, q12, q13⟩ := HS.out _ (Below.refl _ _)
  have hc1 := fun V (hV : Below w.heap.size w V) => tsame_any (d + 1) x (e + 1) y _ _ _ _ _ _ _ _ _ _ _ _ V (Tv.below hV (Nat.le_refl _) _ _ _ hT) (Tv.below hV (Nat.le_refl _) _ _ _ hU)
  have hc2 := fun V (hV : Below w.heap.size w V) => rsame_any d e x y _ _ _ _ _ _ _ _ _ _ _ _ V (Tv.below hV (Nat.le_refl _) _ _ _ hT) (Tv.below hV (Nat.le_refl _) _ _ _ hU)
  generalize (szO (d + 1) x && (szO (e + 1) y && alkB (d + 1) x (e + 1) y)) = R at *
  go_enter Tryz.func10, Tryz.ntmps10
  go_upto_region 11 with fail
  generalize hW : (w.alloc (.cells #[.int .i64 4, .int .i64 k1, .string t1, .int .i64 n1, .slice so1 sn1 sc1, .slice ao1 an1 ac1, .slice uo1 un1 uc1, .int .i64 k2, .string t2, .int .i64 n2, .slice so2 sn2 sc2, .slice ao2 an2 ac2, .slice uo2 un2 uc2, .int .i64 c] 33)) = W at *
  clear hW box
  clear hT hU
  have B4 := (Below.refl W.heap.size W).drew
  refine wp_region_R (fun V => V.cell? ⟨w.heap.size, 0, none⟩ = some (.int .i64 4) ∧ V.cell? ⟨w.heap.size, 1, none⟩ = some (.int .i64 k1) ∧ V.cell? ⟨w.heap.size, 2, none⟩ = some (.string t1) ∧ V.cell? ⟨w.heap.size, 3, none⟩ = some (.int .i64 n1) ∧ V.cell? ⟨w.heap.size, 4, none⟩ = some (.slice so1 sn1 sc1) ∧ V.cell? ⟨w.heap.size, 5, none⟩ = some (.slice ao1 an1 ac1) ∧ V.cell? ⟨w.heap.size, 6, none⟩ = some (.slice uo1 un1 uc1) ∧ V.cell? ⟨w.heap.size, 7, none⟩ = some (.int .i64 k2) ∧ V.cell? ⟨w.heap.size, 8, none⟩ = some (.string t2) ∧ V.cell? ⟨w.heap.size, 9, none⟩ = some (.int .i64 n2) ∧ V.cell? ⟨w.heap.size, 10, none⟩ = some (.slice so2 sn2 sc2) ∧ V.cell? ⟨w.heap.size, 11, none⟩ = some (.slice ao2 an2 ac2) ∧ V.cell? ⟨w.heap.size, 12, none⟩ = some (.slice uo2 un2 uc2) ∧ V.cell? ⟨w.heap.size, 13, none⟩ = some (.int .i64 c)) (fun _ => true) (by kernel_rfl) ?_
  refine wpAnyR_take (i := 0) (v := .pointer (some ⟨w.heap.size, 1, none⟩)) rfl (by kernel_rfl) (by kernel_rfl) (by kernel_rfl) (by kernel_rfl) (fun _ _ _ h => h) (Or.inl ⟨by rfl, fun V hV => ?_⟩) ?_ ?_
  · obtain ⟨g0, g1, g2, g3, g4, g5, g6, g7, g8, g9, g10, g11, g12, g13⟩ := hV
    go_simp
  · exact HS.out _ (Below.refl _ W).drew
  conv => arg 9; simp [Act.put]
  refine wpAnyR_take (i := 1) (v := .agg #[.int .i64 k1, .string t1, .int .i64 n1, .slice so1 sn1 sc1, .slice ao1 an1 ac1, .slice uo1 un1 uc1]) rfl (by kernel_rfl) (by kernel_rfl) (by kernel_rfl) (by kernel_rfl) (fun _ _ _ h => h) (Or.inl ⟨by rfl, fun V hV => ?_⟩) ?_ ?_
  · obtain ⟨g0, g1, g2, g3, g4, g5, g6, g7, g8, g9, g10, g11, g12, g13⟩ := hV
    go_simp
  · exact HS.out _ (Below.refl _ W).drew
  conv => arg 9; simp [Act.put]
  refine wpAnyR_take (i := 2) (v := .pointer (some ⟨w.heap.size, 7, none⟩)) rfl (by kernel_rfl) (by kernel_rfl) (by kernel_rfl) (by kernel_rfl) (fun _ _ _ h => h) (Or.inl ⟨by rfl, fun V hV => ?_⟩) ?_ ?_
  · obtain ⟨g0, g1, g2, g3, g4, g5, g6, g7, g8, g9, g10, g11, g12, g13⟩ := hV
    go_simp
  · exact HS.out _ (Below.refl _ W).drew
  conv => arg 9; simp [Act.put]
  refine wpAnyR_take (i := 3) (v := .agg #[.int .i64 k2, .string t2, .int .i64 n2, .slice so2 sn2 sc2, .slice ao2 an2 ac2, .slice uo2 un2 uc2]) rfl (by kernel_rfl) (by kernel_rfl) (by kernel_rfl) (by kernel_rfl) (fun _ _ _ h => h) (Or.inl ⟨by rfl, fun V hV => ?_⟩) ?_ ?_
  · obtain ⟨g0, g1, g2, g3, g4, g5, g6, g7, g8, g9, g10, g11, g12, g13⟩ := hV
    go_simp
  · exact HS.out _ (Below.refl _ W).drew
  conv => arg 9; simp [Act.put]
  refine wpAnyR_take (i := 5) (v := .pointer (some ⟨w.heap.size, 1, none⟩)) rfl (by kernel_rfl) (by kernel_rfl) (by kernel_rfl) (by kernel_rfl) (fun _ _ _ h => h) (Or.inl ⟨by rfl, fun V hV => ?_⟩) ?_ ?_
  · obtain ⟨g0, g1, g2, g3, g4, g5, g6, g7, g8, g9, g10, g11, g12, g13⟩ := hV
    go_simp
  · exact HS.out _ (Below.refl _ W).drew
  conv => arg 9; simp [Act.put]
  refine wpAnyR_take (i := 6) (v := .agg #[.int .i64 k1, .string t1, .int .i64 n1, .slice so1 sn1 sc1, .slice ao1 an1 ac1, .slice uo1 un1 uc1]) rfl (by kernel_rfl) (by kernel_rfl) (by kernel_rfl) (by kernel_rfl) (fun _ _ _ h => h) (Or.inl ⟨by rfl, fun V hV => ?_⟩) ?_ ?_
  · obtain ⟨g0, g1, g2, g3, g4, g5, g6, g7, g8, g9, g10, g11, g12, g13⟩ := hV
    go_simp
  · exact HS.out _ (Below.refl _ W).drew
  conv => arg 9; simp [Act.put]
  refine wpAnyR_take (i := 7) (v := .pointer (some ⟨w.heap.size, 7, none⟩)) rfl (by kernel_rfl) (by kernel_rfl) (by kernel_rfl) (by kernel_rfl) (fun _ _ _ h => h) (Or.inl ⟨by rfl, fun V hV => ?_⟩) ?_ ?_
  · obtain ⟨g0, g1, g2, g3, g4, g5, g6, g7, g8, g9, g10, g11, g12, g13⟩ := hV
    go_simp
  · exact HS.out _ (Below.refl _ W).drew
  conv => arg 9; simp [Act.put]
  refine wpAnyR_take (i := 8) (v := .agg #[.int .i64 k2, .string t2, .int .i64 n2, .slice so2 sn2 sc2, .slice ao2 an2 ac2, .slice uo2 un2 uc2]) rfl (by kernel_rfl) (by kernel_rfl) (by kernel_rfl) (by kernel_rfl) (fun _ _ _ h => h) (Or.inl ⟨by rfl, fun V hV => ?_⟩) ?_ ?_
  · obtain ⟨g0, g1, g2, g3, g4, g5, g6, g7, g8, g9, g10, g11, g12, g13⟩ := hV
    go_simp
  · exact HS.out _ (Below.refl _ W).drew
  conv => arg 9; simp [Act.put]
  refine wpAnyR_one (i := 4) (by kernel_rfl) rfl (fun K hK => ?_)
  go_simp
  go_at_call 15
  with_reducible refine (hc1 _ (k0.trans (B4.mono k0.size))).mono ?_
  rintro e w5 ⟨rfl, b5⟩
  have B5 := B4.trans (b5.mono B4.size)
  refine hK _ _ ⟨fun _ => HS.out w5 B5, ?_⟩
  clear hK
  (try (conv => arg 9; simp [Act.put]))
  refine wpAnyR_one (i := 9) (by kernel_rfl) rfl (fun K hK => ?_)
  go_simp
  go_at_call 31
  with_reducible refine (hc2 _ (k0.trans (B5.mono k0.size))).mono ?_
  rintro e w6 ⟨rfl, b6⟩
  have B6 := B5.trans (b6.mono B5.size)
  refine hK _ _ ⟨fun _ => HS.out w6 B6, ?_⟩
  clear hK
  (try (conv => arg 9; simp [Act.put]))
  refine wpAnyR_one (i := 10) (by kernel_rfl) rfl (fun K hK => ?_)
  go_simp
  refine hK _ _ ⟨fun _ => HS.out w6 B6, ?_⟩
  clear hK
  (try (conv => arg 9; simp [Act.put]))
  refine wpAnyR_one (i := 11) (by kernel_rfl) rfl (fun K hK => ?_)
  go_simp
  refine hK _ _ ⟨fun _ => HS.out w6 B6, ?_⟩
  clear hK
  (try (conv => arg 9; simp [Act.put]))
  refine wpAnyR_done (by kernel_rfl) ?_ _
  go_wp2
  go_ret
  exact ⟨ret_bool (by simp), k0.trans (B6.mono k0.size)⟩
set_option linter.unusedSimpArgs false in
set_option maxRecDepth 100000 in
set_option maxHeartbeats 4000000 in
theorem play_3 (d e : Nat) (x : Tr (d + 1)) (y : Tr (e + 1)) (k1 n1 k2 n2 c : Int) (t1 t2 : ByteArray) (so1 ao1 uo1 so2 ao2 uo2 : Option Addr) (sn1 sc1 an1 ac1 un1 uc1 sn2 sc2 an2 ac2 un2 uc2 : Nat) (w : World) (hT : Tv w (d + 1) x [.int .i64 k1, .string t1, .int .i64 n1, .slice so1 sn1 sc1, .slice ao1 an1 ac1, .slice uo1 un1 uc1]) (hU : Tv w (e + 1) y [.int .i64 k2, .string t2, .int .i64 n2, .slice so2 sn2 sc2, .slice ao2 an2 ac2, .slice uo2 un2 uc2]) :
    Calls Tryz.prog 10 #[.agg #[.int .i64 3, .int .i64 k1, .string t1, .int .i64 n1, .slice so1 sn1 sc1, .slice ao1 an1 ac1, .slice uo1 un1 uc1, .int .i64 k2, .string t2, .int .i64 n2, .slice so2 sn2 sc2, .slice ao2 an2 ac2, .slice uo2 un2 uc2, .int .i64 c]] w fun e w' => e = .returned (.bool true) ∧ Below w.heap.size w w' := by
  have k0 := box_below w (.cells #[.int .i64 3, .int .i64 k1, .string t1, .int .i64 n1, .slice so1 sn1 sc1, .slice ao1 an1 ac1, .slice uo1 un1 uc1, .int .i64 k2, .string t2, .int .i64 n2, .slice so2 sn2 sc2, .slice ao2 an2 ac2, .slice uo2 un2 uc2, .int .i64 c] 33)
  have box := allocNew w (.cells #[.int .i64 3, .int .i64 k1, .string t1, .int .i64 n1, .slice so1 sn1 sc1, .slice ao1 an1 ac1, .slice uo1 un1 uc1, .int .i64 k2, .string t2, .int .i64 n2, .slice so2 sn2 sc2, .slice ao2 an2 ac2, .slice uo2 un2 uc2, .int .i64 c] 33)
  have HS : Hid (∀ V, Below (w.alloc (.cells #[.int .i64 3, .int .i64 k1, .string t1, .int .i64 n1, .slice so1 sn1 sc1, .slice ao1 an1 ac1, .slice uo1 un1 uc1, .int .i64 k2, .string t2, .int .i64 n2, .slice so2 sn2 sc2, .slice ao2 an2 ac2, .slice uo2 un2 uc2, .int .i64 c] 33)).heap.size (w.alloc (.cells #[.int .i64 3, .int .i64 k1, .string t1, .int .i64 n1, .slice so1 sn1 sc1, .slice ao1 an1 ac1, .slice uo1 un1 uc1, .int .i64 k2, .string t2, .int .i64 n2, .slice so2 sn2 sc2, .slice ao2 an2 ac2, .slice uo2 un2 uc2, .int .i64 c] 33)) V → V.cell? ⟨w.heap.size, 0, none⟩ = some (.int .i64 3) ∧ V.cell? ⟨w.heap.size, 1, none⟩ = some (.int .i64 k1) ∧ V.cell? ⟨w.heap.size, 2, none⟩ = some (.string t1) ∧ V.cell? ⟨w.heap.size, 3, none⟩ = some (.int .i64 n1) ∧ V.cell? ⟨w.heap.size, 4, none⟩ = some (.slice so1 sn1 sc1) ∧ V.cell? ⟨w.heap.size, 5, none⟩ = some (.slice ao1 an1 ac1) ∧ V.cell? ⟨w.heap.size, 6, none⟩ = some (.slice uo1 un1 uc1) ∧ V.cell? ⟨w.heap.size, 7, none⟩ = some (.int .i64 k2) ∧ V.cell? ⟨w.heap.size, 8, none⟩ = some (.string t2) ∧ V.cell? ⟨w.heap.size, 9, none⟩ = some (.int .i64 n2) ∧ V.cell? ⟨w.heap.size, 10, none⟩ = some (.slice so2 sn2 sc2) ∧ V.cell? ⟨w.heap.size, 11, none⟩ = some (.slice ao2 an2 ac2) ∧ V.cell? ⟨w.heap.size, 12, none⟩ = some (.slice uo2 un2 uc2) ∧ V.cell? ⟨w.heap.size, 13, none⟩ = some (.int .i64 c)) := fun V hV => box14 ((hV.block w.heap.size (by simp)).trans box)
  obtain ⟨q0, q1, q2, q3, q4, q5, q6, q7, q8, q9, q10, q11, q12, q13⟩ := HS.out _ (Below.refl _ _)
  have hc1 := fun V (hV : Below w.heap.size w V) => tsize_any (d + 1) x _ _ _ _ _ _ V (Tv.below hV (Nat.le_refl _) _ _ _ hT)
  have hc2 := fun V (hV : Below w.heap.size w V) => rsize_any d x _ _ _ _ _ _ V (Tv.below hV (Nat.le_refl _) _ _ _ hT)
  generalize szN (d + 1) x = R at *
  generalize szD (d + 1) x = R2 at *
  go_enter Tryz.func10, Tryz.ntmps10
  go_upto_region 7 with fail
  generalize hW : (w.alloc (.cells #[.int .i64 3, .int .i64 k1, .string t1, .int .i64 n1, .slice so1 sn1 sc1, .slice ao1 an1 ac1, .slice uo1 un1 uc1, .int .i64 k2, .string t2, .int .i64 n2, .slice so2 sn2 sc2, .slice ao2 an2 ac2, .slice uo2 un2 uc2, .int .i64 c] 33)) = W at *
  clear hW box
  clear hT hU
  go_wp2_with (first
    | (go_at_call 13; (with_reducible refine (hc1 _ k0).mono ?_); rintro e w5 ⟨rfl, b5⟩; obtain ⟨r0, r1, r2, r3, r4, r5, r6, r7, r8, r9, r10, r11, r12, r13⟩ := HS.out w5 b5)
    | (go_at_call 30; (with_reducible refine (hc2 _ (k0.trans (b5.mono k0.size))).mono ?_); rintro e w6 ⟨rfl, b6⟩))
  go_ret
  exact ⟨ret_bool (by simp), k0.trans ((b5.trans (b6.mono b5.size)).mono k0.size)⟩
end Go.Proofs.YtiahilelcppfgaaGreat
