
/- An append to a list of one's own, and what agrees with what. -/

import Derived.Test.YtndjlbedfccnjaaBegun

import Derived.Laws.AppendOwnNone

namespace Go.Proofs.Ytndjlbedfccnjaa

open Go.RowKit

set_option linter.unusedVariables false

theorem run_join {w : World} (ty : TypeId) (B : Nat) (ao bo : Option Addr) (n cap m cap' : Nat) (zs ys : List Int) (h : Fr w B ao n cap zs) (g : Rd w bo m ys) (gs : Sl bo m cap') (hr : (n + m) * 8 ≤ 140737488351232) (hB : B ≤ w.heap.size) :
    ∃ co c w', (Builtin.append_ #[25, 25] ty #[.slice ao n cap, .slice bo m cap']).run Try.prog w = .ok (.slice co (n + m) c) w' ∧ Fr w' B co (n + m) c (zs ++ ys) ∧ w.grownBy w' (Value.slice ao n cap).ownBlock := by
  obtain ⟨i0, hi, hz0, hz1, hz2⟩ := info_parts info3
  have hl := h.rd.len
  have gl := g.len
  have hnum : ∀ k, k < n + m → -9223372036854775808 ≤ nth (zs ++ ys) k ∧ nth (zs ++ ys) k ≤ 9223372036854775807 := by
    intro k hk
    by_cases c : k < n
    · have e : nth (zs ++ ys) k = nth zs k := by unfold nth; simp [List.getElem?_append, hl, c]
      rw [e]; exact h.rd.num k c
    · have e : nth (zs ++ ys) k = nth ys (k - n) := by unfold nth; simp [List.getElem?_append, hl, c]
      rw [e]; exact g.num _ (by omega)
  have fin : ∀ v w', w'.ownsRow B 3 1 v (n + m) (zs.map (Value.int .i64) ++ ys.map (Value.int .i64)) → ∃ co c, v = .slice co (n + m) c ∧ Fr w' B co (n + m) c (zs ++ ys) := fun v w' ho =>
    Fr.mk' (by simp [hl, gl]) hr hnum (by rw [List.map_append]; exact ho)
  cases bo with
  | none =>
    obtain ⟨rfl, rfl⟩ := gs.nil rfl
    have hy : ys = [] := List.eq_nil_of_length_eq_zero gl
    subst hy
    have hrun := run_append_owned_none (P := Try.prog) (w := w) B 25 ty 3 i0 1 Try.underlying25 hi _ n _ h.own
    refine ⟨ao, cap, w, hrun, ?_, World.grownBy.refl _ _⟩
    rw [List.append_nil]; exact h
  | some a =>
    have hnews : ∀ j u, (ys.map (Value.int .i64))[j]? = some u → w.cell? (a.add j) = some u := by
      intro j u hu
      have hj : j < m := by
        have := (List.getElem?_eq_some_iff.1 hu).1
        simpa [gl] using this
      obtain ⟨b, off, e, _, hc⟩ := g.cells (by omega)
      cases e
      exact Rd.news gl hc j u hu
    obtain ⟨v', w', hrun, hown, hgrow, _⟩ := run_append_own (P := Try.prog) w B 25 ty 3 i0 (.int .i64 0) 1 8 Try.underlying25 hi hz0 hz1 hz2 rfl (by decide) _ n _ h.own a m cap' (ys.map (Value.int .i64)) (by rw [List.length_map, gl, Nat.mul_one]) hnews (ints_one ys) (by unfold maxLen; omega) (by omega) hB
    obtain ⟨co, c, rfl, hf⟩ := fin _ _ hown
    exact ⟨co, c, w', hrun, hf, hgrow⟩

end Go.Proofs.Ytndjlbedfccnjaa
