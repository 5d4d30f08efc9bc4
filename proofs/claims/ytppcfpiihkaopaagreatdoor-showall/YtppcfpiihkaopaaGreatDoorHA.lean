
/- The hand of layer 4: an array laid into it, and looked at behind the call. -/

import Derived.Test.YtppcfpiihkaopaaGreatDoorHand2

import Derived.Test.YtppcfpiihkaopaaGreatDoorYT

import Derived.Test.YtppcfpiihkaopaaGreatDoorVG

namespace Go.Proofs.YtppcfpiihkaopaaGreatDoor

open Go.RowKit

set_option linter.unusedVariables false

/-- The i-th mark, as 64 bits hold it. -/
def mkA (i : Nat) : Int := wrap64 (-770000 - (i : Int))
theorem markA_any (i : Nat) (w : World) (h : i ≤ 9223372036854775807) : Calls Tryz.prog 27 #[.int .i64 (i : Nat)] w fun e w' => e = .returned (.int .i64 (mkA i)) ∧ w' = w := by
  go_enter Tryz.func27, Tryz.ntmps27
  go_wp2
  go_ret
  exact ⟨ret_int (by unfold mkA; rfl), rfl⟩

/-- A row of numbers whose first m are told. -/
structure PRowA (W : World) (g cap m : Nat) (f : Nat → Int) : Prop where
  blk : ∃ cur, W.heap[g]? = some (.cells cur 2 (0, 0)) ∧ cur.size = cap ∧ ∀ k, k < m → cur[k]? = some (.int .i64 (f k))
  le : cap ≤ 9223372036854775807

theorem PRowA.lt {W : World} {g cap m : Nat} {f : Nat → Int} (h : PRowA W g cap m f) : g < W.heap.size := by
  obtain ⟨cur, h1, _⟩ := h.blk
  exact (Array.getElem?_eq_some_iff.1 h1).1
theorem PRowA.cell {W : World} {g cap m : Nat} {f : Nat → Int} (h : PRowA W g cap m f) {k : Nat} (hk : k < m) : W.cell? ⟨g, k, none⟩ = some (.int .i64 (f k)) := by
  obtain ⟨cur, h1, h2, h3⟩ := h.blk
  rw [cell_of_row W g k cur 2 (0, 0) h1]; exact h3 k hk
theorem PRowA.is {W : World} {g cap m : Nat} {f : Nat → Int} (h : PRowA W g cap m f) {k : Nat} (hk : k < cap) : ∃ v, W.cell? ⟨g, k, none⟩ = some v := by
  obtain ⟨cur, h1, h2, h3⟩ := h.blk
  rw [cell_of_row W g k cur 2 (0, 0) h1]
  exact ⟨cur[k], by simp [h2, hk]⟩
theorem PRowA.frozen {W : World} {g cap m : Nat} {f : Nat → Int} (h : PRowA W g cap m f) (k : Nat) : W.frozen? ⟨g, k, none⟩ = false := by
  obtain ⟨cur, h1, h2, h3⟩ := h.blk
  exact frozen_of_row W g k cur 2 h1
theorem PRowA.set {W : World} {g cap m : Nat} {f : Nat → Int} (h : PRowA W g cap m f) (hm : m < cap) (u : Int) (hu : f m = u) : PRowA (W.setCell ⟨g, m, none⟩ (.int .i64 u)) g cap (m + 1) f ∧ W.grownBy (W.setCell ⟨g, m, none⟩ (.int .i64 u)) (some g) := by
  obtain ⟨cur, h1, h2, h3⟩ := h.blk
  refine ⟨⟨⟨cur.setIfInBounds m (.int .i64 u), heap_setCell_same W g m cur 2 _ h1, by simpa using h2, fun k hk => ?_⟩, h.le⟩, ⟨rfl, rfl, rfl, by simp, fun k _ hk => heap_setCell_other W ⟨g, m, none⟩ k _ (fun e => hk (by simp [e]))⟩⟩
  by_cases e : k = m
  · subst e; rw [hu]; simp [h2, hm]
  · rw [Array.getElem?_setIfInBounds_ne (Ne.symm e)]; exact h3 k (by omega)
theorem PRowA.kept {W W' : World} {row : Option Nat} {g cap m : Nat} {f : Nat → Int} (h : PRowA W g cap m f) (hg : W.grownBy W' row) (hne : some g ≠ row) : PRowA W' g cap m f := by
  obtain ⟨cur, h1, h2, h3⟩ := h.blk
  exact ⟨⟨cur, (hg.block g h.lt hne).trans h1, h2, h3⟩, h.le⟩

/-- What a hand holds: nothing, or a row of its own. -/
structure HdA (W : World) (B : Nat) (p : Addr) (go : Option Addr) (gn : Nat) : Prop where
  cell : W.cell? p = some (.slice go gn gn)
  frozen : W.frozen? p = false
  base : B ≤ p.block
  row : (go = none ∧ gn = 0) ∨ ∃ g, go = some ⟨g, 0, none⟩ ∧ B ≤ g ∧ g ≠ p.block ∧ PRowA W g gn 0 (fun _ => 0)

theorem HdA.ft {W : World} {B : Nat} {p : Addr} {go : Option Addr} {gn : Nat} (h : HdA W B p go gn) : Ft 2 W B go 0 gn [] := by
  rcases h.row with ⟨rfl, rfl⟩ | ⟨g, rfl, h1, h2, h3⟩
  · exact Ft.nil _ _ _
  · obtain ⟨cur, c1, c2, _⟩ := h3.blk
    exact ⟨Rd.empty _ _, rfl, .inr ⟨g, gn, cur, rfl, h1, c1, Nat.zero_le _, by unfold maxLen; have := h3.le; omega, by omega, rfl⟩⟩

/-- The numbers of a list with marks behind them. -/
def markedA (zs : List Int) (n : Nat) (k : Nat) : Int := if k < n then nth zs k else mkA k

theorem prowA_put {W : World} {g cap : Nat} {f f' : Nat → Int} (m : Nat) (h : PRowA W g cap cap f) (hm : m < cap) (u : Int) (hu : f' m = u) (ho : ∀ k, k ≠ m → f' k = f k) : PRowA (W.setCell ⟨g, m, none⟩ (.int .i64 u)) g cap cap f' := by
  obtain ⟨cur, h1, h2, h3⟩ := h.blk
  refine ⟨⟨cur.setIfInBounds m (.int .i64 u), heap_setCell_same W g m cur 2 _ h1, by simpa using h2, fun k hk => ?_⟩, h.le⟩
  by_cases e : k = m
  · subst e; rw [hu]; simp [h2, hm]
  · rw [Array.getElem?_setIfInBounds_ne (Ne.symm e), ho k e]; exact h3 k hk

theorem join_whereA {w w' : World} {B : Nat} {ao co : Option Addr} {n cap N c : Nat} {zs ys : List Int} (h : Ft 2 w B ao n cap zs) (hf : Ft 2 w' B co N c ys) (hat : (Value.slice co N c).ownBlock = (Value.slice ao n cap).ownBlock ∨ (Value.slice co N c).ownBlock = some w.heap.size) : co = ao ∨ co = some ⟨w.heap.size, 0, none⟩ := by
  rcases hf.own.2 with ⟨e, _⟩ | ⟨g, c1, cur, e, _⟩
  · injection e with e1 e2 e3
    subst e1
    rcases hat with e | e
    · rcases h.own.2 with ⟨e', _⟩ | ⟨g', c', cur', e', _⟩
      · injection e' with e1; exact .inl e1.symm
      · injection e' with e1; subst e1; cases e
    · cases e
  · injection e with e1 e2 e3
    subst e1
    rcases hat with e | e
    · rcases h.own.2 with ⟨e', _⟩ | ⟨g', c', cur', e', _⟩
      · injection e' with e1; subst e1; cases e
      · injection e' with e1; subst e1; cases e; exact .inl rfl
    · right
      have : g = w.heap.size := Option.some.inj e
      rw [this]
theorem wpList_joinGA {w : World} {ops : Array Oper} {rest : List Oper} {o : Oper} {a : Act} {Q : Exit → Act → World → Prop} (hgd : o.guard = none) (s x : Operand)
    (ho : o.op = .call { callee := .builtin .append, args := #[s, x], argTypes := #[28, 28] }) (B : Nat) (ao bo : Option Addr) (n cap m cap' : Nat) (zs ys : List Int)
    (hs : a.eval s = .slice ao n cap) (hx : a.eval x = .slice bo m cap') (h : Ft 2 w B ao n cap zs) (g : Rd w bo m ys) (gs : Sl bo m cap') (hr : (n + m) * 8 ≤ 140737488351232) (hB : B ≤ w.heap.size)
    (hK : ∀ co c w', Ft 2 w' B co (n + m) c (zs ++ ys) → w.grownBy w' (Value.slice ao n cap).ownBlock → (co = ao ∨ co = some ⟨w.heap.size, 0, none⟩) → wpList Tryz.prog ops Q rest (a.put o.dst (.slice co (n + m) c)) w') : wpList Tryz.prog ops Q (o :: rest) a w := by
  obtain ⟨co, c, w', hrun, hf, hg, hat⟩ := run_joinW tyL o.type B ao bo n cap m cap' zs ys h g gs hr hB
  exact wpList_append_run hgd s x 28 ho _ (by rw [hs, hx]; exact hrun) (hK _ _ _ hf hg (join_whereA h hf hat))
end Go.Proofs.YtppcfpiihkaopaaGreatDoor
