
/- An append to a list of one's own, and what agrees with what. -/

import Derived.Test.YtdeglhifemmknaaBegun

import Derived.Laws.AppendOwnNone

namespace Go.Proofs.Ytdeglhifemmknaa

open Go.RowKit

set_option linter.unusedVariables false

theorem run_join {w : World} (ty : TypeId) (B : Nat) (ao bo : Option Addr) (n cap m cap' : Nat) (zs ys : List Int) (h : Fr w B ao n cap zs) (g : Rd w bo m ys) (gs : Sl bo m cap') (hr : (n + m) * 8 ≤ 140737488351232) (hB : B ≤ w.heap.size) :
    ∃ co c w', (Builtin.append_ #[28, 28] ty #[.slice ao n cap, .slice bo m cap']).run Try.prog w = .ok (.slice co (n + m) c) w' ∧ Fr w' B co (n + m) c (zs ++ ys) ∧ w.grownBy w' (Value.slice ao n cap).ownBlock := by
  obtain ⟨i0, hi, hz0, hz1, hz2⟩ := info_parts info3
  have hl := h.rd.len
  have gl := g.len
  have hnum : ∀ k, k < n + m → -9223372036854775808 ≤ nth (zs ++ ys) k ∧ nth (zs ++ ys) k ≤ 9223372036854775807 := by
    intro k hk
    by_cases c : k < n
    · have e : nth (zs ++ ys) k = nth zs k := by unfold nth; simp [List.getElem?_append, hl, c]
      rw [e]; exact h.rd.num k c
    · have e : nth (zs ++ ys) k = nth ys (k - n) := by unfold nth; simp [List.getElem?_append, hl, c]
      rw [e]; exact g.num _ (by omega)
  have fin : ∀ v w', w'.ownsRow B 3 1 v (n + m) (zs.map (Value.int .i64) ++ ys.map (Value.int .i64)) → ∃ co c, v = .slice co (n + m) c ∧ Fr w' B co (n + m) c (zs ++ ys) := fun v w' ho =>
    Fr.mk' (by simp [hl, gl]) hr hnum (by rw [List.map_append]; exact ho)
  cases bo with
  | none =>
    obtain ⟨rfl, rfl⟩ := gs.nil rfl
    have hy : ys = [] := List.eq_nil_of_length_eq_zero gl
    subst hy
    have hrun := run_append_owned_none (P := Try.prog) (w := w) B 28 ty 3 i0 1 Try.underlying28 hi _ n _ h.own
    refine ⟨ao, cap, w, hrun, ?_, World.grownBy.refl _ _⟩
    rw [List.append_nil]; exact h
  | some a =>
    have hnews : ∀ j u, (ys.map (Value.int .i64))[j]? = some u → w.cell? (a.add j) = some u := by
      intro j u hu
      have hj : j < m := by
        have := (List.getElem?_eq_some_iff.1 hu).1
        simpa [gl] using this
      obtain ⟨b, off, e, _, hc⟩ := g.cells (by omega)
      cases e
      exact Rd.news gl hc j u hu
    obtain ⟨v', w', hrun, hown, hgrow, _⟩ := run_append_own (P := Try.prog) w B 28 ty 3 i0 (.int .i64 0) 1 8 Try.underlying28 hi hz0 hz1 hz2 rfl (by decide) _ n _ h.own a m cap' (ys.map (Value.int .i64)) (by rw [List.length_map, gl, Nat.mul_one]) hnews (ints_one ys) (by unfold maxLen; omega) (by omega) hB
    obtain ⟨co, c, rfl, hf⟩ := fin _ _ hown
    exact ⟨co, c, w', hrun, hf, hgrow⟩

theorem wpList_join {w : World} {ops : Array Oper} {rest : List Oper} {o : Oper} {a : Act} {Q : Exit → Act → World → Prop} (hgd : o.guard = none) (s x : Operand)
    (ho : o.op = .call { callee := .builtin .append, args := #[s, x], argTypes := #[28, 28] }) (B : Nat) (ao bo : Option Addr) (n cap m cap' : Nat) (zs ys : List Int)
    (hs : a.eval s = .slice ao n cap) (hx : a.eval x = .slice bo m cap') (h : Fr w B ao n cap zs) (g : Rd w bo m ys) (gs : Sl bo m cap') (hr : (n + m) * 8 ≤ 140737488351232) (hB : B ≤ w.heap.size)
    (hK : ∀ co c w', Fr w' B co (n + m) c (zs ++ ys) → Below B w w' → wpList Try.prog ops Q rest (a.put o.dst (.slice co (n + m) c)) w') : wpList Try.prog ops Q (o :: rest) a w := by
  obtain ⟨co, c, w', hrun, hf, hg⟩ := run_join o.type B ao bo n cap m cap' zs ys h g gs hr hB
  refine wpList_append_run hgd s x 28 ho _ (by rw [hs, hx]; exact hrun) (hK _ _ _ hf ((Below.refl _ _).grown hg hB ?_))
  intro k e
  exact (h.own.lt k e).1

theorem take_all {zs : List Int} {n : Nat} (h : zs.length = n) : zs.take n = zs := by rw [← h, List.take_length]

theorem agr_pre (zs : List Int) (p : Nat) (hp : p ≤ zs.length) : agrE (zs.take p) zs = 0 ∧ agrL (zs.take p) zs = zs := by
  have hb : agrB (zs.take p) zs = true := by
    unfold agrB
    rw [if_neg (by rw [List.length_take]; omega), List.length_take, Nat.min_eq_left hp]
    exact eqB_refl _
  exact ⟨by unfold agrE; rw [if_pos hb], by unfold agrL; rw [if_pos hb, if_neg (by rw [List.length_take]; omega)]⟩

theorem agrB_comm (a b : List Int) : agrB a b = agrB b a := by
  unfold agrB
  by_cases h : b.length < a.length
  · rw [if_pos h, if_neg (by omega)]
  · by_cases h2 : a.length < b.length
    · rw [if_neg h, if_pos h2]
    · have e : a.length = b.length := by omega
      rw [if_neg h, if_neg h2, ← e, List.take_length]
      rw [show b.take a.length = b by rw [e, List.take_length]]
      unfold eqB
      by_cases c : a = b
      · rw [c]
      · rw [decide_eq_false c, decide_eq_false (fun e => c e.symm)]
theorem agrE_comm (a b : List Int) : agrE a b = agrE b a := by unfold agrE; rw [agrB_comm]
theorem agr_true {a b : List Int} (h : agrB a b = true) : (agrL a b).take a.length = a ∧ (agrL a b).take b.length = b ∧ (agrL a b).length = Nat.max a.length b.length := by
  have e : agrL a b = if b.length < a.length then a else b := by unfold agrL; rw [if_pos h]
  unfold agrB at h
  by_cases c : b.length < a.length
  · rw [if_pos c] at h e
    simp only [eqB, decide_eq_true_eq] at h
    rw [e]
    exact ⟨List.take_length, h.symm, (Nat.max_eq_left (by omega)).symm⟩
  · rw [if_neg c] at h e
    simp only [eqB, decide_eq_true_eq] at h
    rw [e]
    exact ⟨h.symm, List.take_length, (Nat.max_eq_right (by omega)).symm⟩
theorem agrL_comm (a b : List Int) : agrL a b = agrL b a := by
  by_cases h : agrB a b = true
  · have h' : agrB b a = true := by rw [← agrB_comm]; exact h
    have h1 := agr_true h
    unfold agrL
    rw [if_pos h, if_pos h']
    by_cases c : b.length < a.length
    · rw [if_pos c, if_neg (by omega)]
    · by_cases c2 : a.length < b.length
      · rw [if_neg c, if_pos c2]
      · rw [if_neg c, if_neg c2]
        have e := agr_true h
        unfold agrL at e
        rw [if_pos h, if_neg c] at e
        have := e.1
        rw [show a.length = b.length by omega, List.take_length] at this
        exact this
  · have h' : ¬ agrB b a = true := by rw [← agrB_comm]; exact h
    unfold agrL; rw [if_neg h, if_neg h']
theorem agr_post (zs : List Int) (p : Nat) (hp : p ≤ zs.length) : agrE zs (zs.take p) = 0 ∧ agrL zs (zs.take p) = zs := by
  rw [agrE_comm, agrL_comm]; exact agr_pre zs p hp
end Go.Proofs.Ytdeglhifemmknaa
