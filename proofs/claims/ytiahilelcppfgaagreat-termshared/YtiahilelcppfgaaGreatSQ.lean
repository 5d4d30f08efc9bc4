
/- The document's text and array of a node. -/

import Derived.Test.YtiahilelcppfgaaGreatSP

import Derived.Test.YtiahilelcppfgaaGreatTM

import Derived.Test.YtiahilelcppfgaaGreatTK

namespace Go.Proofs.YtiahilelcppfgaaGreat

open Go.RowKit

set_option linter.unusedVariables false

theorem box8 {W : World} {g : Nat} {c0 c1 c2 c3 c4 c5 c6 c7 : Value} {t : TypeId} (h : W.heap[g]? = some (.cells #[c0, c1, c2, c3, c4, c5, c6, c7] t (0, 0))) :
    W.cell? ⟨g, 0, none⟩ = some c0 ∧ W.cell? ⟨g, 1, none⟩ = some c1 ∧ W.cell? ⟨g, 2, none⟩ = some c2 ∧ W.cell? ⟨g, 3, none⟩ = some c3 ∧ W.cell? ⟨g, 4, none⟩ = some c4 ∧ W.cell? ⟨g, 5, none⟩ = some c5 ∧ W.cell? ⟨g, 6, none⟩ = some c6 ∧ W.cell? ⟨g, 7, none⟩ = some c7 :=
  ⟨(cell_of_row W g 0 _ t (0, 0) h).trans rfl, (cell_of_row W g 1 _ t (0, 0) h).trans rfl, (cell_of_row W g 2 _ t (0, 0) h).trans rfl, (cell_of_row W g 3 _ t (0, 0) h).trans rfl, (cell_of_row W g 4 _ t (0, 0) h).trans rfl, (cell_of_row W g 5 _ t (0, 0) h).trans rfl, (cell_of_row W g 6 _ t (0, 0) h).trans rfl, (cell_of_row W g 7 _ t (0, 0) h).trans rfl⟩
set_option linter.unusedSimpArgs false in
set_option maxHeartbeats 4000000 in
theorem rtext_name (k : Int) (hk : k = 2 ∨ k = 11) (n dp : Int) (t : ByteArray) (b : Bool) (so ao ko : Option Addr) (sn sc an ac kn kc : Nat) (w : World) (ht : t.size ≤ 140737488355328) :
    Calls Tryz.prog 73 #[.agg #[.int .i64 k, .string t, .int .i64 n, .slice so sn sc, .slice ao an ac, .slice ko kn kc, .int .i64 dp, .bool b]] w fun e w' => e = .returned (.bool (txB k t && (!b || !spk k t))) ∧ Below w.heap.size w w' := by
  have k0 := box_below w (.cells #[.int .i64 k, .string t, .int .i64 n, .slice so sn sc, .slice ao an ac, .slice ko kn kc, .int .i64 dp, .bool b] 77)
  obtain ⟨b0, b1, b2, b3, b4, b5, b6, b7⟩ := box8 (allocNew w (.cells #[.int .i64 k, .string t, .int .i64 n, .slice so sn sc, .slice ao an ac, .slice ko kn kc, .int .i64 dp, .bool b] 77))
  have hT : Hid ((txB k t && (!b || !spk k t)) = (nmB 97 t && (!b || !(t.toList == [120])))) := by
    show _ = _
    rcases hk with rfl | rfl <;> simp [txB, spk]
  have hc := fun W => rname_97 t W ht
  generalize nmB 97 t = Q at *
  cases Q
  · rcases hk with rfl | rfl
    all_goals
      go_enter Tryz.func73, Tryz.ntmps73
      go_wp2_with (go_at_call 108; (with_reducible refine (hc _).mono ?_); rintro e w5 ⟨rfl, hw⟩; rw [hw]; clear hw w5)
      go_ret
      exact ⟨ret_bool (by rw [hT.out]; rfl), k0⟩
  · cases b
    · rcases hk with rfl | rfl
      all_goals
        go_enter Tryz.func73, Tryz.ntmps73
        go_wp2_with (go_at_call 108; (with_reducible refine (hc _).mono ?_); rintro e w5 ⟨rfl, hw⟩; rw [hw]; clear hw w5)
        go_ret
        exact ⟨ret_bool (by rw [hT.out]; rfl), k0⟩
    · cases hx : t.toList == [120]
      · rw [hx] at hT
        rcases hk with rfl | rfl
        all_goals
          go_enter Tryz.func73, Tryz.ntmps73
          go_wp2_with (go_at_call 108; (with_reducible refine (hc _).mono ?_); rintro e w5 ⟨rfl, hw⟩; rw [hw]; clear hw w5)
          go_ret
          exact ⟨ret_bool (by rw [hT.out]; rfl), k0⟩
      · rw [hx] at hT
        rcases hk with rfl | rfl
        all_goals
          go_enter Tryz.func73, Tryz.ntmps73
          go_wp2_with (go_at_call 108; (with_reducible refine (hc _).mono ?_); rintro e w5 ⟨rfl, hw⟩; rw [hw]; clear hw w5)
          go_ret
          exact ⟨ret_bool (by rw [hT.out]; rfl), k0⟩
set_option linter.unusedSimpArgs false in
set_option maxHeartbeats 4000000 in
theorem rtext_any (k n dp : Int) (t : ByteArray) (b : Bool) (so ao ko : Option Addr) (sn sc an ac kn kc : Nat) (w : World) (ht : t.size ≤ 140737488355328) :
    Calls Tryz.prog 73 #[.agg #[.int .i64 k, .string t, .int .i64 n, .slice so sn sc, .slice ao an ac, .slice ko kn kc, .int .i64 dp, .bool b]] w fun e w' => e = .returned (.bool (txB k t && (!b || !spk k t))) ∧ Below w.heap.size w w' := by
  by_cases hk : k = 2 ∨ k = 11
  · exact rtext_name k hk n dp t b so ao ko sn sc an ac kn kc w ht
  have h2 : ¬ k = 2 := fun e => hk (.inl e)
  have h11 : ¬ k = 11 := fun e => hk (.inr e)
  have hS : (txB k t && (!b || !spk k t)) = txB k t := by
    have : spk k t = false := by simp [spk, h2, h11]
    rw [this]; simp
  rw [hS]
  have k0 := box_below w (.cells #[.int .i64 k, .string t, .int .i64 n, .slice so sn sc, .slice ao an ac, .slice ko kn kc, .int .i64 dp, .bool b] 77)
  obtain ⟨b0, b1, b2, b3, b4, b5, b6, b7⟩ := box8 (allocNew w (.cells #[.int .i64 k, .string t, .int .i64 n, .slice so sn sc, .slice ao an ac, .slice ko kn kc, .int .i64 dp, .bool b] 77))
  clear hS hk
  by_cases h21 : k = 21
  · subst h21
    rw [show txB 21 t = nmB 65 t from by simp [txB]]
    have hc := fun W => rname_65 t W ht
    generalize nmB 65 t = Q at *
    go_enter Tryz.func73, Tryz.ntmps73
    go_wp2_with (go_at_call 108; (with_reducible refine (hc _).mono ?_); rintro e w5 ⟨rfl, hw⟩; rw [hw]; clear hw w5)
    go_ret
    exact ⟨rfl, k0⟩
  by_cases h20 : k = 20
  · subst h20
    rw [show txB 20 t = isPr t from by simp [txB]]
    have hc := fun W => rof_any t W
    generalize isPr t = Q at *
    go_enter Tryz.func73, Tryz.ntmps73
    go_wp2_with (go_at_call 109; (with_reducible refine (hc _).mono ?_); rintro e w5 ⟨⟨op, rfl⟩, b5⟩)
    go_ret
    exact ⟨rfl, k0.trans (b5.mono k0.size)⟩
  have f2 : (k == 2) = false := by simp [h2]
  have f11 : (k == 11) = false := by simp [h11]
  have f21 : (k == 21) = false := by simp [h21]
  have f20 : (k == 20) = false := by simp [h20]
  have hT : Hid (txB k t = (t.toList == ([] : List UInt8))) := by show _ = _; simp [txB, h2, h11, h21, h20]
  clear h2 h11 h21 h20
  go_enter Tryz.func73, Tryz.ntmps73
  go_wp2
  go_ret
  exact ⟨ret_bool (by rw [hT.out]; generalize t.toList = l; cases l <;> rfl), k0⟩
end Go.Proofs.YtiahilelcppfgaaGreat
