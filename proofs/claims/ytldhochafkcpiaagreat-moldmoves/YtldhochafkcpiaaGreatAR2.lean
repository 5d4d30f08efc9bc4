
/- Contract of mold.arrange: the axes that are named come last, in the order in which they are named. -/

import Derived.Test.YtldhochafkcpiaaGreatMG
import Derived.Lib.JoinLaws
import Derived.Laws.EntriesVeiled
import Derived.Laws.AppendOwnNone
import Derived.Maps.AppendAt
import Derived.Deep.RegionHeld3


namespace Go.Proofs.YtldhochafkcpiaaGreat

open Go.RowKit

set_option linter.unusedVariables false

/-- A row of axes of a call's own, that may grow. -/
structure Axo (W : World) (B : Nat) (v : Value) (axs : List Ax) : Prop where
  row : ∃ cs : List Value, W.ownsRow B 89 4 v axs.length cs ∧ ∀ k, k < axs.length → AxAt W (fun b => b < B) cs k (nax axs k)
theorem Axo.nil (W : World) (B : Nat) : Axo W B (.slice none 0 0) [] := ⟨[], World.ownsRow_nil _ _ _ _, fun k hk => by simp at hk⟩
theorem Axo.kept {W W' : World} {B : Nat} {v : Value} {axs : List Ax} {row : Option Nat} (h : Axo W B v axs) (hg : W.grownBy W' row) (hne : v.ownBlock = none ∨ v.ownBlock ≠ row) (hB : ∀ r, row = some r → B ≤ r) : Axo W' B v axs := by
  obtain ⟨cs, h1, h2⟩ := h.row
  exact ⟨cs, h1.kept hg hne, fun k hk => (h2 k hk).keep fun b hb hlt => hg.block b hb (fun e => by have := hB b e.symm; omega)⟩
theorem Axo.alloc {W : World} {B : Nat} {v : Value} {axs : List Ax} (h : Axo W B v axs) (o : Obj) : Axo (W.alloc o) B v axs := h.kept (World.grownBy_alloc W o none) (by cases h : v.ownBlock <;> simp) (by simp)
/-- A cell of a row of another kind is written. -/
theorem Axo.setKind {W : World} {B : Nat} {v : Value} {axs : List Ax} (h : Axo W B v axs) {g i : Nat} {cur : Array Value} {t : TypeId} (hg : W.heap[g]? = some (.cells cur t (0, 0))) (ht : t ≠ 89) (hB : B ≤ g) (u : Value) : Axo (W.setCell ⟨g, i, none⟩ u) B v axs := by
  refine h.kept (row := some g) ⟨rfl, rfl, rfl, by simp, fun k _ hk => heap_setCell_other W ⟨g, i, none⟩ k _ (fun e => hk (by simp [e]))⟩ ?_ (fun r e => by cases e; exact hB)
  obtain ⟨cs, h1, _⟩ := h.row
  rcases h1.2 with ⟨e, _⟩ | ⟨g', c, cur', e, _, hg', _⟩
  · left; rw [e]; rfl
  · right
    rw [e]
    intro e2
    have e3 : g' = g := by simpa [Value.ownBlock] using e2
    subst e3
    rw [hg] at hg'
    cases hg'
    exact ht rfl
theorem nax_app {axs : List Ax} {a : Ax} {k : Nat} : nax (axs ++ [a]) k = if k < axs.length then nax axs k else if k = axs.length then a else ⟨0, 0, 0, fun _ => 0⟩ := by
  unfold nax
  by_cases c : k < axs.length
  · rw [if_pos c]; simp [List.getD, List.getElem?_append, c]
  · rw [if_neg c]
    by_cases e : k = axs.length
    · rw [if_pos e, e]; simp [List.getD]
    · rw [if_neg e]
      have : axs.length + 1 ≤ k := by omega
      simp [List.getD, List.getElem?_append, c, show ¬ (k - axs.length = 0) by omega]
theorem AxAt.app {W : World} {N : Nat → Prop} {cs ds : List Value} {k : Nat} {a : Ax} (h : AxAt W N cs k a) (hl : k * 4 + 4 ≤ cs.length) : AxAt W N (cs ++ ds) k a := by
  obtain ⟨K, c, bs, a1, a2, a3, a4, r⟩ := h
  exact ⟨K, c, bs, by rw [List.getElem?_append_left (by omega)]; exact a1, by rw [List.getElem?_append_left (by omega)]; exact a2, by rw [List.getElem?_append_left (by omega)]; exact a3, by rw [List.getElem?_append_left (by omega)]; exact a4, r⟩
/-- One axis more: append of a literal of one element. -/
theorem wpList_axis {w : World} {ops : Array Oper} {rest : List Oper} {o : Oper} {a : Act} {Q : Exit → Act → World → Prop} (hgd : o.guard = none) (s x : Operand)
    (ho : o.op = .call { callee := .builtin .append, args := #[s, x], argTypes := #[91, 91] }) (B vb : Nat) (v : Value) (axs : List Ax) (ax : Ax) (K : Nat) (cs : Array Value) (bs : List Nat) (hs : a.eval s = v) (hx : a.eval x = .slice (some ⟨vb, 0, none⟩) 1 1)
    (h : Axo w B v axs) (hv : w.heap[vb]? = some (.cells #[.int .i64 (ax.len : Nat), .int .i64 (ax.wid : Nat), .int .i64 (ax.stp : Nat), .func (.func K) #[] cs] 89 (0, 0)))
    (hw : Way w bs ax.wid ax.stp ax.f (.func (.func K) #[] cs)) (hb : ∀ b, b ∈ bs → (∃ u, w.cell? ⟨b, 0, none⟩ = some u) ∧ b < B) (h1 : ax.wid ≤ 4096) (h2 : ax.stp ≤ 4096) (hn : axs.length ≤ 5000) (hB : B ≤ w.heap.size)
    (hK : ∀ xo c w', Axo w' B (.slice xo (axs.length + 1) c) (axs ++ [ax]) → w.grownBy w' v.ownBlock → wpList Tryz.prog ops Q rest (a.put o.dst (.slice xo (axs.length + 1) c)) w') : wpList Tryz.prog ops Q (o :: rest) a w := by
  obtain ⟨i0, hi, hz0, hz1, hz2⟩ := info_parts infoX
  obtain ⟨cs0, r1, r2⟩ := h.row
  refine wpList_append_own w hgd s x 91 ho B 89 i0 _ 4 32 Tryz.underlying91 hi hz0 hz1 hz2 (by simp [Value.cells]) (by decide) v axs.length cs0 hs r1 ⟨vb, 0, none⟩ 1 1 [.int .i64 (ax.len : Nat), .int .i64 (ax.wid : Nat), .int .i64 (ax.stp : Nat), .func (.func K) #[] cs] hx rfl
    (fun j q hq => ?_) (fun q hq => ?_) (by unfold maxLen; omega) (by omega) hB (fun v' w' ho' hg' _ => ?_)
  · rw [show (⟨vb, 0, none⟩ : Addr).add j = ⟨vb, j, none⟩ by unfold Addr.add; split <;> simp_all]
    rw [cell_of_row w vb j _ _ (0, 0) hv]
    simpa using hq
  · simp at hq
    rcases hq with rfl | rfl | rfl | rfl <;> rfl
  · have keep : ∀ b, b < B → w'.heap[b]? = w.heap[b]? := fun b hlt => hg'.block b (Nat.lt_of_lt_of_le hlt hB) (fun e => by
      rcases r1.2 with ⟨e1, _⟩ | ⟨g, c, cur, e1, hb1, _⟩
      · rw [e1] at e; cases e
      · rw [e1] at e
        have : b = g := by simpa [Value.ownBlock] using e
        omega)
    have hlen := r1.1
    have hA : Axo w' B v' (axs ++ [ax]) := by
      refine ⟨_, by rw [List.length_append]; exact ho', fun k hk => ?_⟩
      rw [nax_app]
      rw [List.length_append, List.length_singleton] at hk
      by_cases c : k < axs.length
      · rw [if_pos c]
        exact ((r2 k c).app (by omega)).keep (fun b _ hlt => keep b hlt)
      · obtain rfl : k = axs.length := by omega
        rw [if_neg c, if_pos rfl]
        refine ⟨K, cs, bs, ?_, ?_, ?_, ?_, hw.keep (fun b m => keep b (hb b m).2), fun b m => ⟨?_, (hb b m).2⟩, h1, h2⟩
        · rw [List.getElem?_append_right (by omega), show axs.length * 4 - cs0.length = 0 by omega]; rfl
        · rw [List.getElem?_append_right (by omega), show axs.length * 4 + 1 - cs0.length = 1 by omega]; rfl
        · rw [List.getElem?_append_right (by omega), show axs.length * 4 + 2 - cs0.length = 2 by omega]; rfl
        · rw [List.getElem?_append_right (by omega), show axs.length * 4 + 3 - cs0.length = 3 by omega]; rfl
        · obtain ⟨⟨u, hu⟩, hlt⟩ := hb b m
          exact ⟨u, (cell_same (keep b hlt) 0).trans hu⟩
    rcases ho'.2 with ⟨e, h0⟩ | ⟨g, c, cur, e, _⟩
    · omega
    · subst e
      exact hK _ _ _ hA hg'
end Go.Proofs.YtldhochafkcpiaaGreat






namespace Go.Proofs.YtldhochafkcpiaaGreat

open Go.RowKit

set_option linter.unusedVariables false

/-- One row of axes behind another, as one step of a region that draws its order. -/
theorem step_axes {ops : Array Oper} {o : Oper} {a : Act} {w : World} {K : Act → World → Prop} {Q : Exit → Act → World → Prop} {E : Prop} (hg : o.guard = none) (p x : Operand) (ho : o.op = .call { callee := .builtin .append, args := #[p, x], argTypes := #[91, 91] }) (B B' : Nat) (hBB : B' ≤ B) (v v2 : Value) (axs bxs : List Ax)
    (hs : a.eval p = v) (hx : a.eval x = v2) (h : Axo w B v axs) (g : Axo w B' v2 bxs) (hn : axs.length ≤ 5000) (hm : bxs.length ≤ 5000) (hB : B ≤ w.heap.size)
    (hK : ∀ xo c w', Axo w' B (.slice xo (axs.length + bxs.length) c) (axs ++ bxs) → w.grownBy w' v.ownBlock → K (a.put o.dst (.slice xo (axs.length + bxs.length) c)) w') :
    if Region.wanted o (yielded ops a.tmps) = true then Oper.wp Tryz.prog o a w K Q else E := by
  have hw : Region.wanted o (yielded ops a.tmps) = true := by simp [Region.wanted, hg]
  rw [if_pos hw]
  obtain ⟨i0, hi, hz0, hz1, hz2⟩ := info_parts infoX
  obtain ⟨cs, r1, r2⟩ := h.row
  obtain ⟨ds, q1, q2⟩ := g.row
  have hlen := r1.1
  have glen := q1.1
  rcases q1.2 with ⟨e2, m0⟩ | ⟨g2, cap2, cur2, e2, hb2, hg2, hc2, hm2, hsz2, htk2⟩
  · have hb : bxs = [] := List.eq_nil_of_length_eq_zero m0
    subst hb
    subst e2
    have hrun := run_append_owned_none (P := Tryz.prog) (w := w) B 91 o.type 89 i0 4 Tryz.underlying91 hi _ axs.length _ r1
    unfold Oper.wp
    simp [execOp, ho, resolve, invoke, builtin, hs, hx, hrun, Result.andThen]
    have hf : ∃ xo c, v = .slice xo axs.length c := by
      rcases r1.2 with ⟨e, n0⟩ | ⟨g1, cap1, cur1, e, _⟩
      · exact ⟨none, 0, by rw [e, n0]⟩
      · exact ⟨_, _, e⟩
    obtain ⟨xo, c, rfl⟩ := hf
    have := hK xo c w (by simpa using h) (World.grownBy.refl _ _)
    have t : K (a.put o.dst (.slice xo axs.length c)) w := by simpa using this
    exact t
  · subst e2
    have hnews : ∀ j u, ds[j]? = some u → w.cell? ((⟨g2, 0, none⟩ : Addr).add j) = some u := q1.cells rfl
    have hone : ∀ u ∈ ds, u.oneCell' = true := by
      intro u hu
      obtain ⟨j, hj, rfl⟩ := List.mem_iff_getElem.1 hu
      have hk : j / 4 < bxs.length := by omega
      obtain ⟨K, c, bs, a1, a2, a3, a4, _⟩ := q2 (j / 4) hk
      have e : ds[j]? = some ds[j] := List.getElem?_eq_getElem hj
      have hr : j % 4 = 0 ∨ j % 4 = 1 ∨ j % 4 = 2 ∨ j % 4 = 3 := by omega
      rcases hr with hr | hr | hr | hr
      · rw [show j / 4 * 4 = j by omega] at a1; rw [a1] at e; rw [← Option.some.inj e]; rfl
      · rw [show j / 4 * 4 + 1 = j by omega] at a2; rw [a2] at e; rw [← Option.some.inj e]; rfl
      · rw [show j / 4 * 4 + 2 = j by omega] at a3; rw [a3] at e; rw [← Option.some.inj e]; rfl
      · rw [show j / 4 * 4 + 3 = j by omega] at a4; rw [a4] at e; rw [← Option.some.inj e]; rfl
    obtain ⟨v', w', hrun, hown, hgrow, _, hat⟩ := run_append_own_at (P := Tryz.prog) w B 91 o.type 89 i0 _ 4 32 Tryz.underlying91 hi hz0 hz1 hz2 (by simp [Value.cells]) (by decide) v axs.length cs r1 ⟨g2, 0, none⟩ bxs.length cap2 ds glen hnews hone (by unfold maxLen; omega) (by omega) hB
    have keep : ∀ b, b < B → w'.heap[b]? = w.heap[b]? := fun b hlt => hgrow.block b (Nat.lt_of_lt_of_le hlt hB) (fun e => by
      rcases r1.2 with ⟨e1, _⟩ | ⟨g, c, cur, e1, hb1, _⟩
      · rw [e1] at e; cases e
      · rw [e1] at e
        have : b = g := by simpa [Value.ownBlock] using e
        omega)
    have hA : Axo w' B v' (axs ++ bxs) := by
      refine ⟨_, by rw [List.length_append]; exact hown, fun k hk => ?_⟩
      rw [List.length_append] at hk
      by_cases c : k < axs.length
      · rw [show nax (axs ++ bxs) k = nax axs k by unfold nax; simp [List.getD, List.getElem?_append, c]]
        exact ((r2 k c).app (by omega)).keep (fun b _ hlt => keep b hlt)
      · rw [show nax (axs ++ bxs) k = nax bxs (k - axs.length) by unfold nax; simp [List.getD, List.getElem?_append, c]]
        obtain ⟨K, c', bs, a1, a2, a3, a4, r⟩ := ((q2 (k - axs.length) (by omega)).weak (N' := fun b => b < B) (fun b hb => by omega)).keep (W' := w') (fun b _ hlt => keep b hlt)
        refine ⟨K, c', bs, ?_, ?_, ?_, ?_, r⟩
        · rw [List.getElem?_append_right (by omega), show k * 4 - cs.length = (k - axs.length) * 4 by omega]; exact a1
        · rw [List.getElem?_append_right (by omega), show k * 4 + 1 - cs.length = (k - axs.length) * 4 + 1 by omega]; exact a2
        · rw [List.getElem?_append_right (by omega), show k * 4 + 2 - cs.length = (k - axs.length) * 4 + 2 by omega]; exact a3
        · rw [List.getElem?_append_right (by omega), show k * 4 + 3 - cs.length = (k - axs.length) * 4 + 3 by omega]; exact a4
    unfold Oper.wp
    simp [execOp, ho, resolve, invoke, builtin, hs, hx, hrun, Result.andThen]
    rcases hown.2 with ⟨e, h0⟩ | ⟨g, c, cur, e, _⟩
    · subst e
      rw [h0] at hK
      exact hK _ _ _ hA hgrow
    · subst e
      exact hK _ _ _ hA hgrow
/-- The row as gather reads it. -/
theorem Axo.ax {W : World} {B : Nat} {xo : Option Addr} {m c : Nat} {axs : List Ax} (h : Axo W B (.slice xo m c) axs) (hm : axs.length = m) : AxL W xo m axs := by
  refine ⟨hm, fun h0 => ?_⟩
  obtain ⟨cs, r1, r2⟩ := h.row
  rcases r1.2 with ⟨e, n0⟩ | ⟨g, cap, cur, e, hb, hg, hc, _, hsz, htk⟩
  · omega
  · cases e
    refine ⟨g, rfl, rfl, cur.toList, by simpa using hg, ?_, fun k hk => ?_⟩
    · simp [hsz]; omega
    · obtain ⟨K, c', bs, a1, a2, a3, a4, a5, a6, a7⟩ := r2 k hk
      have t : ∀ j, j < axs.length * 4 → cur.toList[j]? = cs[j]? := fun j hj => by rw [← htk, List.getElem?_take_of_lt hj]
      exact ⟨K, c', bs, by rw [t _ (by omega)]; exact a1, by rw [t _ (by omega)]; exact a2, by rw [t _ (by omega)]; exact a3, by rw [t _ (by omega)]; exact a4, a5, fun b m => ⟨(a6 b m).1, by have := (a6 b m).2; omega⟩, a7⟩
/-- Which axes are named. -/
structure Nmd (W : World) (g n : Nat) (P : Nat → Bool) : Prop where
  row : ∃ cur : List Value, W.heap[g]? = some (.cells cur.toArray 4 (0, 0)) ∧ cur.length = n ∧ ∀ j, j < n → cur[j]? = some (.bool (P j))
theorem Axo.below {W W' : World} {B : Nat} {v : Value} {axs : List Ax} (h : Axo W B v axs) (b : Below W.heap.size W W') : Axo W' B v axs := by
  obtain ⟨cs, r1, r2⟩ := h.row
  refine ⟨cs, ⟨r1.1, ?_⟩, fun k hk => (r2 k hk).keep fun c hc _ => b.block c hc⟩
  rcases r1.2 with h0 | ⟨g, c, cur, e, hB, hg, r⟩
  · exact .inl h0
  · exact .inr ⟨g, c, cur, e, hB, (b.block g (Array.getElem?_eq_some_iff.1 hg).1).trans hg, r⟩
theorem Nmd.below {W W' : World} {g n : Nat} {P : Nat → Bool} (h : Nmd W g n P) (b : Below W.heap.size W W') : Nmd W' g n P := by
  obtain ⟨cur, h1, r⟩ := h.row
  exact ⟨cur, (b.block g (Array.getElem?_eq_some_iff.1 h1).1).trans h1, r⟩
theorem Nmd.cell {W : World} {g n : Nat} {P : Nat → Bool} (h : Nmd W g n P) {j : Nat} (hj : j < n) : W.cell? ⟨g, j, none⟩ = some (.bool (P j)) ∧ W.frozen? ⟨g, j, none⟩ = false := by
  obtain ⟨cur, h1, h2, h3⟩ := h.row
  exact ⟨(cell_of_row W g j _ _ (0, 0) h1).trans (by simpa using h3 j hj), frozen_of_row W g j _ _ h1⟩
theorem Nmd.set {W : World} {g n : Nat} {P : Nat → Bool} (h : Nmd W g n P) {i : Nat} (hi : i < n) {P' : Nat → Bool} (hP : ∀ j, j < n → P' j = if j = i then true else P j) : Nmd (W.setCell ⟨g, i, none⟩ (.bool true)) g n P' := by
  obtain ⟨cur, h1, h2, h3⟩ := h.row
  refine ⟨cur.set i (.bool true), ?_, by simp [h2], fun j hj => ?_⟩
  · rw [heap_setCell_same W g i _ _ _ h1]; simp
  · rw [hP j hj]
    by_cases e : j = i
    · subst e; rw [if_pos rfl, List.getElem?_set_self (by omega)]
    · rw [if_neg e, List.getElem?_set_ne (fun q => e q.symm)]; exact h3 j hj
theorem Nmd.kept {W W' : World} {g n : Nat} {P : Nat → Bool} (h : Nmd W g n P) (e : W'.heap[g]? = W.heap[g]?) : Nmd W' g n P := by
  obtain ⟨cur, h1, r⟩ := h.row
  exact ⟨cur, e.trans h1, r⟩
theorem nmd_made (W : World) (n : Nat) : Nmd (W.alloc (.cells (madeCells #[.bool false] n) 4)) W.heap.size n (fun _ => false) := by
  refine ⟨(madeCells #[.bool false] n).toList, by simpa using allocNew W _, by simp [madeCells], fun j hj => ?_⟩
  simp [madeCells, hj, Nat.mod_one]
/-- A row of axes that grows lies in no row of bools. -/
theorem Axo.nebool {W : World} {B : Nat} {v : Value} {axs : List Ax} (h : Axo W B v axs) {g n : Nat} {P : Nat → Bool} (k : Nmd W g n P) : v.ownBlock ≠ some g := by
  obtain ⟨cs, r1, _⟩ := h.row
  obtain ⟨cur, k1, _⟩ := k.row
  rcases r1.2 with ⟨e, _⟩ | ⟨g', c, cur', e, _, hg', _⟩
  · rw [e]; simp [Value.ownBlock]
  · rw [e]
    intro q
    have : g' = g := by simpa [Value.ownBlock] using q
    subst this
    rw [k1] at hg'
    cases hg'
end Go.Proofs.YtldhochafkcpiaaGreat
