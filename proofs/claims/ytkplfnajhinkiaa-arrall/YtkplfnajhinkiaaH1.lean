
/- Rows of numbers of either kind, what a hand holds; an append to a row of one's own, and where it then lies. -/

import Derived.Test.YtkplfnajhinkiaaR5
import Derived.Maps.AppendAt


namespace Go.Proofs.Ytkplfnajhinkiaa

open Go.RowKit

set_option linter.unusedVariables false

/-- A row of numbers whose first m are told. -/
structure Pr (e : TypeId) (W : World) (g cap m : Nat) (f : Nat → Int) : Prop where
  blk : ∃ cur, W.heap[g]? = some (.cells cur e (0, 0)) ∧ cur.size = cap ∧ ∀ k, k < m → cur[k]? = some (.int .i64 (f k))
  le : cap ≤ 9223372036854775807

section
variable {e : TypeId} {W W' : World} {g cap m : Nat} {f : Nat → Int}

theorem Pr.lt (h : Pr e W g cap m f) : g < W.heap.size := by
  obtain ⟨cur, h1, _⟩ := h.blk
  exact (Array.getElem?_eq_some_iff.1 h1).1
theorem Pr.cell (h : Pr e W g cap m f) {k : Nat} (hk : k < m) : W.cell? ⟨g, k, none⟩ = some (.int .i64 (f k)) := by
  obtain ⟨cur, h1, h2, h3⟩ := h.blk
  rw [cell_of_row W g k cur e (0, 0) h1]; exact h3 k hk
theorem Pr.is (h : Pr e W g cap m f) {k : Nat} (hk : k < cap) : ∃ v, W.cell? ⟨g, k, none⟩ = some v := by
  obtain ⟨cur, h1, h2, h3⟩ := h.blk
  rw [cell_of_row W g k cur e (0, 0) h1]
  exact ⟨cur[k], by simp [h2, hk]⟩
theorem Pr.frozen (h : Pr e W g cap m f) (k : Nat) : W.frozen? ⟨g, k, none⟩ = false := by
  obtain ⟨cur, h1, h2, h3⟩ := h.blk
  exact frozen_of_row W g k cur e h1
theorem Pr.set (h : Pr e W g cap m f) (hm : m < cap) (u : Int) (hu : f m = u) : Pr e (W.setCell ⟨g, m, none⟩ (.int .i64 u)) g cap (m + 1) f := by
  obtain ⟨cur, h1, h2, h3⟩ := h.blk
  refine ⟨⟨cur.setIfInBounds m (.int .i64 u), heap_setCell_same W g m cur e _ h1, by simpa using h2, fun k hk => ?_⟩, h.le⟩
  by_cases c : k = m
  · subst c; rw [hu]; simp [h2, hm]
  · rw [Array.getElem?_setIfInBounds_ne (Ne.symm c)]; exact h3 k (by omega)
theorem Pr.put {f' : Nat → Int} (m : Nat) (h : Pr e W g cap cap f) (hm : m < cap) (u : Int) (hu : f' m = u) (ho : ∀ k, k ≠ m → f' k = f k) : Pr e (W.setCell ⟨g, m, none⟩ (.int .i64 u)) g cap cap f' := by
  obtain ⟨cur, h1, h2, h3⟩ := h.blk
  refine ⟨⟨cur.setIfInBounds m (.int .i64 u), heap_setCell_same W g m cur e _ h1, by simpa using h2, fun k hk => ?_⟩, h.le⟩
  by_cases c : k = m
  · subst c; rw [hu]; simp [h2, hm]
  · rw [Array.getElem?_setIfInBounds_ne (Ne.symm c), ho k c]; exact h3 k hk
theorem Pr.kept {row : Option Nat} (h : Pr e W g cap m f) (hg : W.grownBy W' row) (hne : some g ≠ row) : Pr e W' g cap m f := by
  obtain ⟨cur, h1, h2, h3⟩ := h.blk
  exact ⟨⟨cur, (hg.block g h.lt hne).trans h1, h2, h3⟩, h.le⟩
theorem Pr.same (h : Pr e W g cap m f) (hb : W'.heap[g]? = W.heap[g]?) : Pr e W' g cap m f := by
  obtain ⟨cur, h1, h2, h3⟩ := h.blk
  exact ⟨⟨cur, hb.trans h1, h2, h3⟩, h.le⟩
theorem Pr.less {m' : Nat} {f' : Nat → Int} (h : Pr e W g cap m f) (hm : m' ≤ m) (hf : ∀ k, k < m' → f' k = f k) : Pr e W g cap m' f' := by
  obtain ⟨cur, h1, h2, h3⟩ := h.blk
  exact ⟨⟨cur, h1, h2, fun k hk => by rw [hf k hk]; exact h3 k (by omega)⟩, h.le⟩
/-- Its first numbers read as a list. -/
theorem Pr.rd {n : Nat} {zs : List Int} (h : Pr e W g cap m f) (hn : n ≤ m) (hl : zs.length = n) (hr : n * 8 ≤ 140737488351232) (hnum : ∀ k, k < n → -9223372036854775808 ≤ nth zs k ∧ nth zs k ≤ 9223372036854775807) (hf : ∀ k, k < n → f k = nth zs k) : Rd W (some ⟨g, 0, none⟩) n zs :=
  ⟨hl, hr, hnum, fun _ => ⟨g, 0, rfl, h.lt, fun k hk => by rw [Nat.zero_add, h.cell (by omega), hf k hk]⟩⟩
end

/-- Nothing, or a row of its own with all its room. -/
structure Rw (e : TypeId) (W : World) (B : Nat) (go : Option Addr) (n : Nat) : Prop where
  is : (go = none ∧ n = 0) ∨ ∃ g, go = some ⟨g, 0, none⟩ ∧ B ≤ g ∧ Pr e W g n 0 (fun _ => 0)
theorem Rw.nil (e : TypeId) (W : World) (B : Nat) : Rw e W B none 0 := ⟨.inl ⟨rfl, rfl⟩⟩
theorem Rw.le {e : TypeId} {W : World} {B : Nat} {go : Option Addr} {n : Nat} (h : Rw e W B go n) : n ≤ 9223372036854775807 := by
  rcases h.is with ⟨_, rfl⟩ | ⟨g, _, _, p⟩
  · omega
  · exact p.le
theorem Rw.ft {e : TypeId} {W : World} {B : Nat} {go : Option Addr} {n : Nat} (h : Rw e W B go n) : Ft e W B go 0 n [] := by
  rcases h.is with ⟨rfl, rfl⟩ | ⟨g, rfl, h1, h3⟩
  · exact Ft.nil _ _ _
  · obtain ⟨cur, c1, c2, _⟩ := h3.blk
    exact ⟨Rd.empty _ _, rfl, .inr ⟨g, n, cur, rfl, h1, c1, Nat.zero_le _, by unfold maxLen; have := h3.le; omega, by omega, rfl⟩⟩
theorem Rw.same {e : TypeId} {W W' : World} {B : Nat} {go : Option Addr} {n : Nat} (h : Rw e W B go n) (hb : ∀ g, go = some ⟨g, 0, none⟩ → W'.heap[g]? = W.heap[g]?) : Rw e W' B go n := by
  rcases h.is with ⟨rfl, rfl⟩ | ⟨g, rfl, h1, h3⟩
  · exact Rw.nil _ _ _
  · exact ⟨.inr ⟨g, rfl, h1, h3.same (hb g rfl)⟩⟩
theorem Rw.at {e : TypeId} {W : World} {B : Nat} {go : Option Addr} {n : Nat} (h : Rw e W B go n) : ∀ g, go = some ⟨g, 0, none⟩ → B ≤ g ∧ g < W.heap.size ∧ ∃ cur, W.heap[g]? = some (.cells cur e (0, 0)) := by
  rintro g rfl
  rcases h.is with ⟨e, _⟩ | ⟨g', e, h1, h3⟩
  · cases e
  · cases e
    obtain ⟨cur, c1, _⟩ := h3.blk
    exact ⟨h1, h3.lt, cur, c1⟩

/-- An append to a list of one's own: what else becomes of the world, and where the list then lies. -/
theorem run_joinW {s e : TypeId} (ty : Ty s e) {w : World} (tt : TypeId) (B : Nat) (ao bo : Option Addr) (n cap m cap' : Nat) (zs ys : List Int) (h : Ft e w B ao n cap zs) (g : Rd w bo m ys) (gs : Sl bo m cap') (hr : (n + m) * 8 ≤ 140737488351232) (hB : B ≤ w.heap.size) :
    ∃ co c w', (Builtin.append_ #[s, s] tt #[.slice ao n cap, .slice bo m cap']).run Try.prog w = .ok (.slice co (n + m) c) w' ∧ Ft e w' B co (n + m) c (zs ++ ys) ∧ w.grownBy w' (Value.slice ao n cap).ownBlock ∧ ((Value.slice co (n + m) c).ownBlock = (Value.slice ao n cap).ownBlock ∨ (Value.slice co (n + m) c).ownBlock = some w.heap.size) := by
  obtain ⟨i0, hi, hz0, hz1, hz2⟩ := info_parts ty.info
  have hl := h.rd.len
  have gl := g.len
  have hnum : ∀ k, k < n + m → -9223372036854775808 ≤ nth (zs ++ ys) k ∧ nth (zs ++ ys) k ≤ 9223372036854775807 := by
    intro k hk
    by_cases c : k < n
    · have e : nth (zs ++ ys) k = nth zs k := by unfold nth; simp [List.getElem?_append, hl, c]
      rw [e]; exact h.rd.num k c
    · have e : nth (zs ++ ys) k = nth ys (k - n) := by unfold nth; simp [List.getElem?_append, hl, c]
      rw [e]; exact g.num _ (by omega)
  have fin : ∀ v w', w'.ownsRow B e 1 v (n + m) (zs.map (Value.int .i64) ++ ys.map (Value.int .i64)) → ∃ co c, v = .slice co (n + m) c ∧ Ft e w' B co (n + m) c (zs ++ ys) := fun v w' ho =>
    Ft.mk' (by simp [hl, gl]) hr hnum (by rw [List.map_append]; exact ho)
  cases bo with
  | none =>
    obtain ⟨rfl, rfl⟩ := gs.nil rfl
    have hy : ys = [] := List.eq_nil_of_length_eq_zero gl
    subst hy
    have hrun := run_append_owned_none (P := Try.prog) (w := w) B s tt e i0 1 ty.und hi _ n _ h.own
    refine ⟨ao, cap, w, hrun, ?_, World.grownBy.refl _ _, .inl ?_⟩
    · rw [List.append_nil]; exact h
    · cases ao <;> rfl
  | some a =>
    have hnews : ∀ j u, (ys.map (Value.int .i64))[j]? = some u → w.cell? (a.add j) = some u := by
      intro j u hu
      have hj : j < m := by
        have := (List.getElem?_eq_some_iff.1 hu).1
        simpa [gl] using this
      obtain ⟨b, off, e, _, hc⟩ := g.cells (by omega)
      cases e
      exact Rd.news gl hc j u hu
    obtain ⟨v', w', hrun, hown, hgrow, _, hat⟩ := run_append_own_at (P := Try.prog) w B s tt e i0 (.int .i64 0) 1 8 ty.und hi hz0 hz1 hz2 rfl (by decide) _ n _ h.own a m cap' (ys.map (Value.int .i64)) (by rw [List.length_map, gl, Nat.mul_one]) hnews (ints_one ys) (by unfold maxLen; omega) (by omega) hB
    obtain ⟨co, c, rfl, hf⟩ := fin _ _ hown
    exact ⟨co, c, w', hrun, hf, hgrow, hat⟩

/-- The same as one step of a region that draws its order. -/
theorem step_joinW {s e : TypeId} (ty : Ty s e) {ops : Array Oper} {o : Oper} {a : Act} {w : World} {K : Act → World → Prop} {Q : Exit → Act → World → Prop} {E : Prop}
    (hg : o.guard = none) (p x : Operand) (ho : o.op = .call { callee := .builtin .append, args := #[p, x], argTypes := #[s, s] }) (B : Nat) (N : Nat) (ao bo : Option Addr) (n cap m cap' : Nat) (zs ys : List Int) (hN : n + m = N)
    (hs : a.eval p = .slice ao n cap) (hx : a.eval x = .slice bo m cap') (h : Ft e w B ao n cap zs) (g : Rd w bo m ys) (gs : Sl bo m cap') (hr : (n + m) * 8 ≤ 140737488351232) (hB : B ≤ w.heap.size)
    (hK : ∀ co c w', Ft e w' B co N c (zs ++ ys) → w.grownBy w' (Value.slice ao n cap).ownBlock → ((Value.slice co N c).ownBlock = (Value.slice ao n cap).ownBlock ∨ (Value.slice co N c).ownBlock = some w.heap.size) → K (a.put o.dst (.slice co N c)) w') :
    if Region.wanted o (yielded ops a.tmps) = true then Oper.wp Try.prog o a w K Q else E := by
  subst hN
  have hw : Region.wanted o (yielded ops a.tmps) = true := by simp [Region.wanted, hg]
  rw [if_pos hw]
  obtain ⟨co, c, w', hrun, hf, h1, h2⟩ := run_joinW ty o.type B ao bo n cap m cap' zs ys h g gs hr hB
  unfold Oper.wp
  simp [execOp, ho, resolve, invoke, builtin, hs, hx, hrun, Result.andThen]
  exact hK _ _ _ hf h1 h2

/-- All that lies outside some blocks is as it was. -/
structure Kp (w w' : World) (S : Nat → Prop) : Prop where
  os : w'.os = w.os
  tape : w'.tape = w.tape
  output : w'.output = w.output
  size : w.heap.size ≤ w'.heap.size
  block : ∀ k, k < w.heap.size → ¬ S k → w'.heap[k]? = w.heap[k]?
theorem Kp.refl (w : World) (S : Nat → Prop) : Kp w w S := ⟨rfl, rfl, rfl, Nat.le_refl _, fun _ _ _ => rfl⟩
theorem Kp.trans {a b c : World} {S T : Nat → Prop} (h : Kp a b S) (k : Kp b c T) (hT : ∀ j, j < a.heap.size → T j → S j) : Kp a c S :=
  ⟨k.os.trans h.os, k.tape.trans h.tape, k.output.trans h.output, Nat.le_trans h.size k.size, fun j hj hn => (k.block j (Nat.lt_of_lt_of_le hj h.size) (fun t => hn (hT j hj t))).trans (h.block j hj hn)⟩
theorem Kp.of {w w' : World} {row : Option Nat} (h : w.grownBy w' row) : Kp w w' (fun b => some b = row) := ⟨h.os, h.tape, h.output, h.size, fun k hk hn => h.block k hk hn⟩
theorem Kp.ofBelow {w w' : World} {S : Nat → Prop} (h : Below w.heap.size w w') : Kp w w' S := ⟨h.os, h.tape, h.output, h.size, fun k hk _ => h.block k hk⟩
theorem Kp.below {w w' : World} {S : Nat → Prop} {B : Nat} (h : Kp w w' S) (hB : B ≤ w.heap.size) (hS : ∀ j, j < B → ¬ S j) : Below B w w' := ⟨h.os, h.tape, h.output, h.size, fun k hk => h.block k (by omega) (hS k hk)⟩
theorem Kp.wide {a b : World} {S T : Nat → Prop} (h : Kp a b S) (hT : ∀ j, S j → T j) : Kp a b T := ⟨h.os, h.tape, h.output, h.size, fun k hk hn => h.block k hk (fun s => hn (hT k s))⟩
end Go.Proofs.Ytkplfnajhinkiaa
