
/- MoldMoves: rows that lie apart, and the walk's numbers. -/

import Derived.Test.YtldhochafkcpiaaGreatMVb

namespace Go.Proofs.YtldhochafkcpiaaGreat

open Go.RowKit

set_option linter.unusedVariables false

theorem ft_keptB {e : TypeId} {w w' : World} {B : Nat} {ao : Option Addr} {n cap : Nat} {zs : List Int} (h : Ft e w B ao n cap zs) (hk : ∀ g, ao = some ⟨g, 0, none⟩ → w'.heap[g]? = w.heap[g]?) : Ft e w' B ao n cap zs := by
  have ho : w'.ownsRow B e 1 (.slice ao n cap) n (zs.map (Value.int .i64)) := by
    refine ⟨h.own.1, ?_⟩
    rcases h.own.2 with h0 | ⟨g, c, cur, e, hB2, hg, r⟩
    · exact .inl h0
    · have e' := e
      cases e
      exact .inr ⟨g, cap, cur, rfl, hB2, (hk g rfl).trans hg, r⟩
  obtain ⟨ao', cap', e, hf⟩ := Ft.mk' h.rd.len h.rd.room h.rd.num ho
  cases e
  exact hf
/-- Appending as one step of a region that draws its order. -/
theorem step_joinB {s e : TypeId} (ty : Ty s e) {ops : Array Oper} {o : Oper} {a : Act} {w : World} {K : Act → World → Prop} {Q : Exit → Act → World → Prop} {E : Prop}
    (hg : o.guard = none) (p x : Operand) (ho : o.op = .call { callee := .builtin .append, args := #[p, x], argTypes := #[s, s] }) (B : Nat) (N : Nat) (ao bo : Option Addr) (n cap m cap' : Nat) (zs ys : List Int) (hN : n + m = N)
    (hs : a.eval p = .slice ao n cap) (hx : a.eval x = .slice bo m cap') (h : Ft e w B ao n cap zs) (g : Rd w bo m ys) (gs : Sl bo m cap') (hr : (n + m) * 8 ≤ 140737488351232) (hB : B ≤ w.heap.size)
    (hK : ∀ co c w', Ft e w' B co N c (zs ++ ys) → Below B w w' → K (a.put o.dst (.slice co N c)) w') :
    if Region.wanted o (yielded ops a.tmps) = true then Oper.wp Tryz.prog o a w K Q else E := by
  subst hN
  have hw : Region.wanted o (yielded ops a.tmps) = true := by simp [Region.wanted, hg]
  rw [if_pos hw]
  obtain ⟨co, c, w', hrun, hf, h1⟩ := run_joinT ty o.type B ao bo n cap m cap' zs ys h g gs hr hB
  unfold Oper.wp
  simp [execOp, ho, resolve, invoke, builtin, hs, hx, hrun, Result.andThen]
  exact hK _ _ _ hf ((Below.refl _ _).grown h1 hB fun k e => (h.own.lt k e).1)
theorem takeN {l : List Nat} {i : Nat} (h : i < l.length) : l.take (i + 1) = l.take i ++ [l.getD i 0] := by
  rw [List.take_add_one, List.getElem?_eq_getElem h, List.getD_eq_getElem?_getD, List.getElem?_eq_getElem h]; rfl
/-- The way back, as far as it is filled. -/
theorem bck_set {n i : Nat} {pi : List Nat} {B : List Int} (hp : pi.Perm (List.range n)) (hi : i < n) (hl : B.length = n) (h : ∀ m, m < i → nth B (pi.getD m 0) = (m : Int)) : ∀ m, m < i + 1 → nth (B.set (pi.getD i 0) (i : Int)) (pi.getD m 0) = (m : Int) := by
  intro m hm
  rw [nth_setL (by rw [hl]; exact perm_lt hp hi)]
  by_cases e : pi.getD m 0 = pi.getD i 0
  · rw [if_pos e, perm_inj hp (by omega) hi e]
  · rw [if_neg e]
    refine h m ?_
    rcases Nat.lt_or_ge m i with c | c
    · exact c
    · exact absurd (by rw [show m = i by omega]) e
end Go.Proofs.YtldhochafkcpiaaGreat
