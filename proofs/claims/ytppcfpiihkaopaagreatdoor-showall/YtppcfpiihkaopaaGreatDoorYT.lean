
/- An append to a row of one's own, as a step; a region that draws, whose last operations write what others loaded ahead of them. -/

import Derived.Test.YtppcfpiihkaopaaGreatDoorBase

import Derived.Test.YtppcfpiihkaopaaGreatDoorA4

import Derived.Maps.AppendAt

import Derived.OrdersHeld

import Derived.RegionTactic

import Derived.Lib.JoinLaws

import Derived.Deep.DeepCutAuto

import Derived.Deep.RegionHeld3

import Derived.Laws.Bits64b

import Derived.Laws.CopyOwn

import Derived.IntWalk

import Derived.Deep.OwnRows

import Derived.Handy

namespace Go.Proofs.YtppcfpiihkaopaaGreatDoor

open Go.RowKit

set_option linter.unusedVariables false

/-- An append to a list of one's own: what else becomes of the world, and where the list then lies. -/
theorem run_joinW {s e : TypeId} (ty : Ty s e) {w : World} (tt : TypeId) (B : Nat) (ao bo : Option Addr) (n cap m cap' : Nat) (zs ys : List Int) (h : Ft e w B ao n cap zs) (g : Rd w bo m ys) (gs : Sl bo m cap') (hr : (n + m) * 8 ≤ 140737488351232) (hB : B ≤ w.heap.size) :
    ∃ co c w', (Builtin.append_ #[s, s] tt #[.slice ao n cap, .slice bo m cap']).run Tryz.prog w = .ok (.slice co (n + m) c) w' ∧ Ft e w' B co (n + m) c (zs ++ ys) ∧ w.grownBy w' (Value.slice ao n cap).ownBlock ∧ ((Value.slice co (n + m) c).ownBlock = (Value.slice ao n cap).ownBlock ∨ (Value.slice co (n + m) c).ownBlock = some w.heap.size) := by
  obtain ⟨i0, hi, hz0, hz1, hz2⟩ := info_parts ty.info
  have hl := h.rd.len
  have gl := g.len
  have hnum : ∀ k, k < n + m → -9223372036854775808 ≤ nth (zs ++ ys) k ∧ nth (zs ++ ys) k ≤ 9223372036854775807 := by
    intro k hk
    by_cases c : k < n
    · have e : nth (zs ++ ys) k = nth zs k := by unfold nth; simp [List.getElem?_append, hl, c]
      rw [e]; exact h.rd.num k c
    · have e : nth (zs ++ ys) k = nth ys (k - n) := by unfold nth; simp [List.getElem?_append, hl, c]
      rw [e]; exact g.num _ (by omega)
  have fin : ∀ v w', w'.ownsRow B e 1 v (n + m) (zs.map (Value.int .i64) ++ ys.map (Value.int .i64)) → ∃ co c, v = .slice co (n + m) c ∧ Ft e w' B co (n + m) c (zs ++ ys) := fun v w' ho =>
    Ft.mk' (by simp [hl, gl]) hr hnum (by rw [List.map_append]; exact ho)
  cases bo with
  | none =>
    obtain ⟨rfl, rfl⟩ := gs.nil rfl
    have hy : ys = [] := List.eq_nil_of_length_eq_zero gl
    subst hy
    have hrun := run_append_owned_none (P := Tryz.prog) (w := w) B s tt e i0 1 ty.und hi _ n _ h.own
    refine ⟨ao, cap, w, hrun, ?_, World.grownBy.refl _ _, .inl ?_⟩
    · rw [List.append_nil]; exact h
    · cases ao <;> rfl
  | some a =>
    have hnews : ∀ j u, (ys.map (Value.int .i64))[j]? = some u → w.cell? (a.add j) = some u := by
      intro j u hu
      have hj : j < m := by
        have := (List.getElem?_eq_some_iff.1 hu).1
        simpa [gl] using this
      obtain ⟨b, off, e, _, hc⟩ := g.cells (by omega)
      cases e
      exact Rd.news gl hc j u hu
    obtain ⟨v', w', hrun, hown, hgrow, _, hat⟩ := run_append_own_at (P := Tryz.prog) w B s tt e i0 (.int .i64 0) 1 8 ty.und hi hz0 hz1 hz2 rfl (by decide) _ n _ h.own a m cap' (ys.map (Value.int .i64)) (by rw [List.length_map, gl, Nat.mul_one]) hnews (ints_one ys) (by unfold maxLen; omega) (by omega) hB
    obtain ⟨co, c, rfl, hf⟩ := fin _ _ hown
    exact ⟨co, c, w', hrun, hf, hgrow, hat⟩

/-- The same as one step of a region that draws its order. -/
theorem step_joinW {s e : TypeId} (ty : Ty s e) {ops : Array Oper} {o : Oper} {a : Act} {w : World} {K : Act → World → Prop} {Q : Exit → Act → World → Prop} {E : Prop}
    (hg : o.guard = none) (p x : Operand) (ho : o.op = .call { callee := .builtin .append, args := #[p, x], argTypes := #[s, s] }) (B : Nat) (N : Nat) (ao bo : Option Addr) (n cap m cap' : Nat) (zs ys : List Int) (hN : n + m = N)
    (hs : a.eval p = .slice ao n cap) (hx : a.eval x = .slice bo m cap') (h : Ft e w B ao n cap zs) (g : Rd w bo m ys) (gs : Sl bo m cap') (hr : (n + m) * 8 ≤ 140737488351232) (hB : B ≤ w.heap.size)
    (hK : ∀ co c w', Ft e w' B co N c (zs ++ ys) → w.grownBy w' (Value.slice ao n cap).ownBlock → ((Value.slice co N c).ownBlock = (Value.slice ao n cap).ownBlock ∨ (Value.slice co N c).ownBlock = some w.heap.size) → K (a.put o.dst (.slice co N c)) w') :
    if Region.wanted o (yielded ops a.tmps) = true then Oper.wp Tryz.prog o a w K Q else E := by
  subst hN
  have hw : Region.wanted o (yielded ops a.tmps) = true := by simp [Region.wanted, hg]
  rw [if_pos hw]
  obtain ⟨co, c, w', hrun, hf, h1, h2⟩ := run_joinW ty o.type B ao bo n cap m cap' zs ys h g gs hr hB
  unfold Oper.wp
  simp [execOp, ho, resolve, invoke, builtin, hs, hx, hrun, Result.andThen]
  exact hK _ _ _ hf h1 h2

section

variable {P : Program} {ops : Array Oper} {Q : Exit → Act → World → Prop} {md : Region.Mode} {S : World → Prop} {A : Nat → Bool}

end

end Go.Proofs.YtppcfpiihkaopaaGreatDoor
