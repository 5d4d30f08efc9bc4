
/- Terms whose lists lie in blocks of a kind; a list of terms that grows by append. -/

import Derived.Test.YtiahilelcppfgaaGreatTX

import Derived.Maps.AppendAt

namespace Go.Proofs.YtiahilelcppfgaaGreat

open Go.RowKit

set_option linter.unusedVariables false

/-- A term that is read, its lists all in blocks of a kind. -/
def Tq (Q : Nat → Prop) (W : World) : (d : Nat) → Tr d → List Value → Prop
  | 0, _, _ => False
  | d + 1, x, v => Nv (Tq Q W d) W x.nd x.ks v ∧ ∀ a n c, Value.slice (some a) n c ∈ v → Q a.block
theorem Tq.tv {Q : Nat → Prop} {W : World} : ∀ {d : Nat} {x : Tr d} {v : List Value}, Tq Q W d x v → Tv W d x v
  | 0, _, _, h => h
  | d + 1, x, v, h => Nv.mp h.1 fun y v h => Tq.tv h
theorem Tq.imp {Q R : Nat → Prop} {W : World} (hQ : ∀ b, Q b → R b) : ∀ {d : Nat} {x : Tr d} {v : List Value}, Tq Q W d x v → Tq R W d x v
  | 0, _, _, h => h
  | d + 1, x, v, h => ⟨Nv.mp h.1 fun y v h => Tq.imp hQ h, fun a n c ha => hQ _ (h.2 a n c ha)⟩
/-- The blocks of a kind are as they were. -/
structure Kb (Q : Nat → Prop) (W V : World) : Prop where
  size : W.heap.size ≤ V.heap.size
  block : ∀ k, Q k → k < W.heap.size → V.heap[k]? = W.heap[k]?
theorem Kb.cell {Q : Nat → Prop} {W V : World} (u : Kb Q W V) {b o : Nat} (hb : Q b) (hl : b < W.heap.size) : V.cell? ⟨b, o, none⟩ = W.cell? ⟨b, o, none⟩ := by
  simp only [World.cell?]
  rw [u.block b hb hl]
theorem Kb.trans {Q : Nat → Prop} {W V U : World} (h : Kb Q W V) (k : Kb Q V U) : Kb Q W U := ⟨Nat.le_trans h.size k.size, fun j h1 h2 => (k.block j h1 (Nat.lt_of_lt_of_le h2 h.size)).trans (h.block j h1 h2)⟩
theorem Kb.of_below {Q : Nat → Prop} {B : Nat} {W V : World} (h : Below B W V) (hQ : ∀ b, Q b → b < W.heap.size → b < B) : Kb Q W V := ⟨h.size, fun k hk hl => h.block k (hQ k hk hl)⟩
theorem Kb.of_grown {Q : Nat → Prop} {W V : World} {r : Option Nat} (h : W.grownBy V r) (hQ : ∀ b, Q b → some b ≠ r) : Kb Q W V := ⟨h.size, fun k hk hl => h.block k hl (hQ k hk)⟩
theorem Rd.kb {Q : Nat → Prop} {W V : World} {ao : Option Addr} {n : Nat} {zs : List Int} (h : Rd W ao n zs) (u : Kb Q W V) (hb : ∀ a, ao = some a → Q a.block) : Rd V ao n zs := by
  refine ⟨h.len, h.room, h.num, fun h0 => ?_⟩
  obtain ⟨b, off, e, hl, hc⟩ := h.cells h0
  refine ⟨b, off, e, Nat.lt_of_lt_of_le hl u.size, fun k hk => ?_⟩
  rw [u.cell (by have := hb _ e; exact this) hl]
  exact hc k hk
theorem Tq.keep {Q : Nat → Prop} {W V : World} (u : Kb Q W V) : ∀ {d : Nat} {x : Tr d} {v : List Value}, Tq Q W d x v → Tq Q V d x v
  | 0, _, _, h => h
  | d + 1, x, v, h => by
    obtain ⟨⟨⟨so, sn, sc, ao, an, ac, ko, kc, e, h1, h2, h3, h4, h5, h6⟩, hk, hn, ht⟩, hb⟩ := h
    refine ⟨⟨⟨so, sn, sc, ao, an, ac, ko, kc, e, h1.kb u fun a ea => hb a sn sc (by rw [e, ea]; simp), h2, h3.kb u fun a ea => hb a an ac (by rw [e, ea]; simp), h4, ⟨h5.room, fun h0 => ?_⟩, h6⟩, hk, hn, ht⟩, hb⟩
    obtain ⟨b, off, eo, hl, hc⟩ := h5.cells h0
    have hB : Q b := hb ⟨b, off, none⟩ x.ks.length kc (by rw [e, eo]; simp)
    refine ⟨b, off, eo, Nat.lt_of_lt_of_le hl u.size, fun i y hy => ?_⟩
    obtain ⟨c0, c1, c2, c3, c4, c5, hp, q0, q1, q2, q3, q4, q5⟩ := hc i y hy
    exact ⟨c0, c1, c2, c3, c4, c5, Tq.keep u hp, (u.cell hB hl).trans q0, (u.cell hB hl).trans q1, (u.cell hB hl).trans q2, (u.cell hB hl).trans q3, (u.cell hB hl).trans q4, (u.cell hB hl).trans q5⟩
theorem run_joinW {s e : TypeId} (ty : Ty s e) {w : World} (tt : TypeId) (B : Nat) (ao bo : Option Addr) (n cap m cap' : Nat) (zs ys : List Int) (h : Ft e w B ao n cap zs) (g : Rd w bo m ys) (gs : Sl bo m cap') (hr : (n + m) * 8 ≤ 140737488351232) (hB : B ≤ w.heap.size) :
    ∃ co c w', (Builtin.append_ #[s, s] tt #[.slice ao n cap, .slice bo m cap']).run Tryz.prog w = .ok (.slice co (n + m) c) w' ∧ Ft e w' B co (n + m) c (zs ++ ys) ∧ w.grownBy w' (Value.slice ao n cap).ownBlock ∧ ((Value.slice co (n + m) c).ownBlock = (Value.slice ao n cap).ownBlock ∨ (Value.slice co (n + m) c).ownBlock = some w.heap.size) := by
  obtain ⟨i0, hi, hz0, hz1, hz2⟩ := info_parts ty.info
  have hl := h.rd.len
  have gl := g.len
  have hnum : ∀ k, k < n + m → -9223372036854775808 ≤ nth (zs ++ ys) k ∧ nth (zs ++ ys) k ≤ 9223372036854775807 := by
    intro k hk
    by_cases c : k < n
    · have e : nth (zs ++ ys) k = nth zs k := by unfold nth; simp [List.getElem?_append, hl, c]
      rw [e]; exact h.rd.num k c
    · have e : nth (zs ++ ys) k = nth ys (k - n) := by unfold nth; simp [List.getElem?_append, hl, c]
      rw [e]; exact g.num _ (by omega)
  have fin : ∀ v w', w'.ownsRow B e 1 v (n + m) (zs.map (Value.int .i64) ++ ys.map (Value.int .i64)) → ∃ co c, v = .slice co (n + m) c ∧ Ft e w' B co (n + m) c (zs ++ ys) := fun v w' ho =>
    Ft.mk' (by simp [hl, gl]) hr hnum (by rw [List.map_append]; exact ho)
  cases bo with
  | none =>
    obtain ⟨rfl, rfl⟩ := gs.nil rfl
    have hy : ys = [] := List.eq_nil_of_length_eq_zero gl
    subst hy
    have hrun := run_append_owned_none (P := Tryz.prog) (w := w) B s tt e i0 1 ty.und hi _ n _ h.own
    refine ⟨ao, cap, w, hrun, ?_, World.grownBy.refl _ _, .inl ?_⟩
    · rw [List.append_nil]; exact h
    · cases ao <;> rfl
  | some a =>
    have hnews : ∀ j u, (ys.map (Value.int .i64))[j]? = some u → w.cell? (a.add j) = some u := by
      intro j u hu
      have hj : j < m := by
        have := (List.getElem?_eq_some_iff.1 hu).1
        simpa [gl] using this
      obtain ⟨b, off, e, _, hc⟩ := g.cells (by omega)
      cases e
      exact Rd.news gl hc j u hu
    obtain ⟨v', w', hrun, hown, hgrow, _, hat⟩ := run_append_own_at (P := Tryz.prog) w B s tt e i0 (.int .i64 0) 1 8 ty.und hi hz0 hz1 hz2 rfl (by decide) _ n _ h.own a m cap' (ys.map (Value.int .i64)) (by rw [List.length_map, gl, Nat.mul_one]) hnews (ints_one ys) (by unfold maxLen; omega) (by omega) hB
    obtain ⟨co, c, rfl, hf⟩ := fin _ _ hown
    exact ⟨co, c, w', hrun, hf, hgrow, hat⟩
theorem step_joinW {s e : TypeId} (ty : Ty s e) {ops : Array Oper} {o : Oper} {a : Act} {w : World} {K : Act → World → Prop} {Q : Exit → Act → World → Prop} {E : Prop}
    (hg : o.guard = none) (p x : Operand) (ho : o.op = .call { callee := .builtin .append, args := #[p, x], argTypes := #[s, s] }) (B : Nat) (N : Nat) (ao bo : Option Addr) (n cap m cap' : Nat) (zs ys : List Int) (hN : n + m = N)
    (hs : a.eval p = .slice ao n cap) (hx : a.eval x = .slice bo m cap') (h : Ft e w B ao n cap zs) (g : Rd w bo m ys) (gs : Sl bo m cap') (hr : (n + m) * 8 ≤ 140737488351232) (hB : B ≤ w.heap.size)
    (hK : ∀ co c w', Ft e w' B co N c (zs ++ ys) → w.grownBy w' (Value.slice ao n cap).ownBlock → ((Value.slice co N c).ownBlock = (Value.slice ao n cap).ownBlock ∨ (Value.slice co N c).ownBlock = some w.heap.size) → K (a.put o.dst (.slice co N c)) w') :
    if Region.wanted o (yielded ops a.tmps) = true then Oper.wp Tryz.prog o a w K Q else E := by
  subst hN
  have hw : Region.wanted o (yielded ops a.tmps) = true := by simp [Region.wanted, hg]
  rw [if_pos hw]
  obtain ⟨co, c, w', hrun, hf, h1, h2⟩ := run_joinW ty o.type B ao bo n cap m cap' zs ys h g gs hr hB
  unfold Oper.wp
  simp [execOp, ho, resolve, invoke, builtin, hs, hx, hrun, Result.andThen]
  exact hK _ _ _ hf h1 h2
/-- A term more, behind a list of terms. -/
theorem run_joinQ {w : World} (tt : TypeId) (B vb : Nat) (go : Option Addr) (n gc : Nat) (cs : List Value) (v0 v1 v2 v3 v4 v5 : Value) (h1 : ∀ u ∈ [v0, v1, v2, v3, v4, v5], u.oneCell' = true)
    (h : w.ownsRow B 31 6 (.slice go n gc) n cs) (hv : w.heap[vb]? = some (.cells #[v0, v1, v2, v3, v4, v5] 31 (0, 0))) (hn : n * 104 ≤ 140737488351232) (hB : B ≤ w.heap.size) :
    ∃ co c w', (Builtin.append_ #[29, 29] tt #[.slice go n gc, .slice (some ⟨vb, 0, none⟩) 1 1]).run Tryz.prog w = .ok (.slice co (n + 1) c) w' ∧ w'.ownsRow B 31 6 (.slice co (n + 1) c) (n + 1) (cs ++ [v0, v1, v2, v3, v4, v5]) ∧ w.grownBy w' (Value.slice go n gc).ownBlock ∧ ((Value.slice co (n + 1) c).ownBlock = (Value.slice go n gc).ownBlock ∨ (Value.slice co (n + 1) c).ownBlock = some w.heap.size) := by
  obtain ⟨i0, hi, hz0, hz1, hz2⟩ := info_parts infoT
  obtain ⟨x0, x1, x2, x3, x4, x5⟩ := box6 hv
  obtain ⟨v', w', hrun, hown, hgrow, _, hat⟩ := run_append_own_at (P := Tryz.prog) w B 29 tt 31 i0 _ 6 104 Tryz.underlying29 hi hz0 hz1 hz2 rfl (by decide) _ n _ h ⟨vb, 0, none⟩ 1 1 [v0, v1, v2, v3, v4, v5] rfl
    (fun j q hq => by
      rw [add_at, Nat.zero_add]
      match j with
      | 0 => cases hq; exact x0
      | 1 => cases hq; exact x1
      | 2 => cases hq; exact x2
      | 3 => cases hq; exact x3
      | 4 => cases hq; exact x4
      | 5 => cases hq; exact x5
      | j + 6 => simp at hq) h1 (by unfold maxLen; omega) (by omega) hB
  rcases hown.2 with ⟨e, h0⟩ | ⟨g, c, cur, e, _⟩
  · omega
  · subst e
    exact ⟨_, _, w', hrun, hown, hgrow, hat⟩
theorem step_joinQ {ops : Array Oper} {o : Oper} {a : Act} {w : World} {K : Act → World → Prop} {Q : Exit → Act → World → Prop} {E : Prop}
    (hg : o.guard = none) (p x : Operand) (ho : o.op = .call { callee := .builtin .append, args := #[p, x], argTypes := #[29, 29] }) (B vb : Nat) (go : Option Addr) (n gc : Nat) (cs : List Value) (v0 v1 v2 v3 v4 v5 : Value) (h1 : ∀ u ∈ [v0, v1, v2, v3, v4, v5], u.oneCell' = true)
    (hs : a.eval p = .slice go n gc) (hx : a.eval x = .slice (some ⟨vb, 0, none⟩) 1 1)
    (h : w.ownsRow B 31 6 (.slice go n gc) n cs) (hv : w.heap[vb]? = some (.cells #[v0, v1, v2, v3, v4, v5] 31 (0, 0))) (hn : n * 104 ≤ 140737488351232) (hB : B ≤ w.heap.size)
    (hK : ∀ co c w', w'.ownsRow B 31 6 (.slice co (n + 1) c) (n + 1) (cs ++ [v0, v1, v2, v3, v4, v5]) → w.grownBy w' (Value.slice go n gc).ownBlock → ((Value.slice co (n + 1) c).ownBlock = (Value.slice go n gc).ownBlock ∨ (Value.slice co (n + 1) c).ownBlock = some w.heap.size) → K (a.put o.dst (.slice co (n + 1) c)) w') :
    if Region.wanted o (yielded ops a.tmps) = true then Oper.wp Tryz.prog o a w K Q else E := by
  have hw : Region.wanted o (yielded ops a.tmps) = true := by simp [Region.wanted, hg]
  rw [if_pos hw]
  obtain ⟨co, c, w', hrun, hf, h2, h3⟩ := run_joinQ o.type B vb go n gc cs v0 v1 v2 v3 v4 v5 h1 h hv hn hB
  unfold Oper.wp
  simp [execOp, ho, resolve, invoke, builtin, hs, hx, hrun, Result.andThen]
  exact hK _ _ _ hf h2 h3
/-- The kids under way: j of them are copied, into a list from block M on; what they hold lies from M on too, beside the list. -/
structure Ko (d : Nat) (ks : List (Tr d)) (V : World) (M j : Nat) (o : Option Addr) (c : Nat) (vals : List Value) : Prop where
  own : V.ownsRow M 31 6 (.slice o j c) j vals
  kids : ∀ i y, i < j → ks[i]? = some y → ∃ c0 c1 c2 c3 c4 c5, Tq (fun b => M ≤ b ∧ b < V.heap.size ∧ some b ≠ (Value.slice o j c).ownBlock) V d y [c0, c1, c2, c3, c4, c5] ∧ vals[i * 6]? = some c0 ∧ vals[i * 6 + 1]? = some c1 ∧ vals[i * 6 + 2]? = some c2 ∧ vals[i * 6 + 3]? = some c3 ∧ vals[i * 6 + 4]? = some c4 ∧ vals[i * 6 + 5]? = some c5
theorem own_at6 {V : World} {M j c : Nat} {o : Option Addr} {vals : List Value} (h : V.ownsRow M 31 6 (.slice o j c) j vals) : ∀ g, (Value.slice o j c).ownBlock = some g → M ≤ g ∧ g < V.heap.size := by
  intro g e
  rcases h.2 with ⟨e1, h0⟩ | ⟨g', cap, cur, e1, hB, hg, _⟩
  · injection e1 with e1; subst e1; cases e
  · injection e1 with e1
    subst e1
    have : g' = g := by injection e
    subst this
    exact ⟨hB, (Array.getElem?_eq_some_iff.1 hg).1⟩
/-- One kid more. -/
theorem Ko.step {d : Nat} {ks : List (Tr d)} {V0 W8 X V3 V4 : World} {M j c c' : Nat} {o o' : Option Addr} {vals : List Value} {y : Tr d} {v0 v1 v2 v3 v4 v5 : Value} (h : Ko d ks V0 M j o c vals) (hM : M ≤ V0.heap.size) (hy : ks[j]? = some y)
    (b8 : Below V0.heap.size V0 W8) (tq : Tq (fun b => V0.heap.size ≤ b ∧ b < W8.heap.size) W8 d y [v0, v1, v2, v3, v4, v5]) (bx : Below W8.heap.size W8 X) (hX : W8.heap.size ≤ X.heap.size)
    (hown : V3.ownsRow M 31 6 (.slice o' (j + 1) c') (j + 1) (vals ++ [v0, v1, v2, v3, v4, v5])) (hgr : X.grownBy V3 (Value.slice o j c).ownBlock) (hat : (Value.slice o' (j + 1) c').ownBlock = (Value.slice o j c).ownBlock ∨ (Value.slice o' (j + 1) c').ownBlock = some X.heap.size)
    (k4 : Kb (fun b => M ≤ b) V3 V4) (own4 : V4.ownsRow M 31 6 (.slice o' (j + 1) c') (j + 1) (vals ++ [v0, v1, v2, v3, v4, v5])) : Ko d ks V4 M (j + 1) o' c' (vals ++ [v0, v1, v2, v3, v4, v5]) := by
  have hlen : vals.length = j * 6 := h.own.1
  have s8 := b8.size
  have s3 := hgr.size
  have s4 := k4.size
  have kx : ∀ Q : Nat → Prop, Kb Q W8 X := fun Q => Kb.of_below bx fun b _ hl => hl
  refine ⟨own4, fun i z hi hz => ?_⟩
  by_cases hij : i = j
  · subst hij
    rw [hy] at hz
    injection hz with hz
    subst hz
    have hne : ∀ b, V0.heap.size ≤ b ∧ b < W8.heap.size → some b ≠ (Value.slice o i c).ownBlock := fun b hb e => by
      have := (own_at6 h.own b e.symm).2; omega
    have t3 := ((tq.keep (kx _)).keep (Kb.of_grown hgr hne)).keep (V := V4) ⟨k4.size, fun k hk hl => k4.block k (Nat.le_trans hM hk.1) hl⟩
    have t4 : Tq (fun b => M ≤ b ∧ b < V4.heap.size ∧ some b ≠ (Value.slice o' (i + 1) c').ownBlock) V4 d y [v0, v1, v2, v3, v4, v5] := t3.imp fun b hb => ⟨Nat.le_trans hM hb.1, by omega, fun e => by
      rcases hat with e' | e'
      · exact hne b hb (e.trans e')
      · rw [e'] at e; injection e with e; omega⟩
    refine ⟨v0, v1, v2, v3, v4, v5, t4, ?_, ?_, ?_, ?_, ?_, ?_⟩
    all_goals (rw [List.getElem?_append_right (by omega)]; simp [hlen])
    all_goals (first | rfl | (rw [show i * 6 + 1 - i * 6 = 1 by omega]; rfl) | (rw [show i * 6 + 2 - i * 6 = 2 by omega]; rfl) | (rw [show i * 6 + 3 - i * 6 = 3 by omega]; rfl) | (rw [show i * 6 + 4 - i * 6 = 4 by omega]; rfl) | (rw [show i * 6 + 5 - i * 6 = 5 by omega]; rfl))
  · have hi' : i < j := by omega
    obtain ⟨c0, c1, c2, c3, c4, c5, t0, q0, q1, q2, q3, q4, q5⟩ := h.kids i z hi' hz
    have t3 := (((t0.keep (Kb.of_below b8 fun b _ hl => hl)).keep (kx _)).keep (Kb.of_grown hgr fun b hb => hb.2.2)).keep (V := V4) ⟨k4.size, fun k hk hl => k4.block k hk.1 hl⟩
    have t4 : Tq (fun b => M ≤ b ∧ b < V4.heap.size ∧ some b ≠ (Value.slice o' (j + 1) c').ownBlock) V4 d z [c0, c1, c2, c3, c4, c5] := t3.imp fun b hb => ⟨hb.1, by omega, fun e => by
      rcases hat with e' | e'
      · exact hb.2.2 (e.trans e')
      · rw [e'] at e; injection e with e; omega⟩
    refine ⟨c0, c1, c2, c3, c4, c5, t4, ?_, ?_, ?_, ?_, ?_, ?_⟩
    all_goals (rw [List.getElem?_append_left (by omega)]; assumption)
theorem Ko.begin (d : Nat) (ks : List (Tr d)) (V : World) (M : Nat) : Ko d ks V M 0 none 0 [] := ⟨World.ownsRow_nil _ _ _ _, fun i y h => absurd h (Nat.not_lt_zero _)⟩
theorem Ko.kept {d : Nat} {ks : List (Tr d)} {V V' : World} {M j c : Nat} {o : Option Addr} {vals : List Value} (h : Ko d ks V M j o c vals) (k : Kb (fun b => M ≤ b) V V') (own' : V'.ownsRow M 31 6 (.slice o j c) j vals) : Ko d ks V' M j o c vals := by
  refine ⟨own', fun i y hi hy => ?_⟩
  obtain ⟨c0, c1, c2, c3, c4, c5, t0, q⟩ := h.kids i y hi hy
  have s := k.size
  exact ⟨c0, c1, c2, c3, c4, c5, (t0.keep (V := V') ⟨k.size, fun b hb hl => k.block b hb.1 hl⟩).imp fun b hb => ⟨hb.1, by omega, hb.2.2⟩, q⟩
/-- All kids are copied: they are read. -/
theorem Ko.kq {d : Nat} {ks : List (Tr d)} {V : World} {M L c : Nat} {o : Option Addr} {vals : List Value} (h : Ko d ks V M L o c vals) (hL : ks.length = L) (hrm : L * 104 ≤ 140737488351232) : Kq (Tq (fun b => M ≤ b ∧ b < V.heap.size ∧ some b ≠ (Value.slice o L c).ownBlock) V d) V o ks := by
  refine ⟨by rw [hL]; exact hrm, fun h0 => ?_⟩
  rw [hL] at h0
  rcases h.own.2 with ⟨_, e⟩ | ⟨g, cap, cur, e, hB, hg, hnc, _, hcs, ht⟩
  · omega
  · injection e with e1 e2 e3
    subst e1 e3
    refine ⟨g, 0, rfl, (Array.getElem?_eq_some_iff.1 hg).1, fun i y hy => ?_⟩
    have hi : i < L := by rw [← hL]; exact (List.getElem?_eq_some_iff.1 hy).1
    obtain ⟨c0, c1, c2, c3, c4, c5, hv, q0, q1, q2, q3, q4, q5⟩ := h.kids i y hi hy
    have at' : ∀ j, j < L * 6 → V.cell? ⟨g, j, none⟩ = vals[j]? := fun j hj => by
      rw [cell_of_row V g j cur _ _ hg, ← ht, List.getElem?_take_of_lt hj, Array.getElem?_toList]
    refine ⟨c0, c1, c2, c3, c4, c5, hv, ?_, ?_, ?_, ?_, ?_, ?_⟩ <;> rw [Nat.zero_add]
    · exact (at' _ (by omega)).trans q0
    · exact (at' _ (by omega)).trans q1
    · exact (at' _ (by omega)).trans q2
    · exact (at' _ (by omega)).trans q3
    · exact (at' _ (by omega)).trans q4
    · exact (at' _ (by omega)).trans q5
/-- What own hands out: two lists of numbers and the kids, each list in a block of its own. -/
def OwN (d : Nat) (x : Tr (d + 1)) (B : Nat) (V : World) (v : List Value) : Prop := ∃ p1 c1 p2 c2 p3 c3 M vals, v = [.int .i64 x.nd.k, .string x.nd.t, .int .i64 x.nd.n, .slice p1 x.nd.sh.length c1, .slice p2 x.nd.at'.length c2, .slice p3 x.ks.length c3] ∧
  Ft 3 V B p1 x.nd.sh.length c1 x.nd.sh ∧ Ft 2 V B p2 x.nd.at'.length c2 x.nd.at' ∧ (∀ a, p1 = some a → a.block < M) ∧ (∀ a, p2 = some a → a.block < M) ∧ (∀ a a', p1 = some a → p2 = some a' → a.block ≠ a'.block) ∧ B ≤ M ∧ M ≤ V.heap.size ∧ Ko d x.ks V M x.ks.length p3 c3 vals ∧
  ((-9223372036854775808 ≤ x.nd.k ∧ x.nd.k ≤ 9223372036854775807) ∧ (-9223372036854775808 ≤ x.nd.n ∧ x.nd.n ≤ 9223372036854775807) ∧ x.nd.t.size ≤ 140737488355328 ∧ x.ks.length * 104 ≤ 140737488351232)
theorem ft_lt {e : TypeId} {W : World} {B : Nat} {ao : Option Addr} {n c : Nat} {zs : List Int} (h : Ft e W B ao n c zs) : ∀ a, ao = some a → B ≤ a.block ∧ a.block < W.heap.size := by
  rintro a rfl
  rcases h.own.2 with ⟨e1, _⟩ | ⟨g, cap, cur, e1, hB, hg, _⟩
  · cases e1
  · cases e1; exact ⟨hB, (Array.getElem?_eq_some_iff.1 hg).1⟩
theorem OwN.tq {d : Nat} {x : Tr (d + 1)} {B : Nat} {V : World} {v : List Value} (h : OwN d x B V v) : Tq (fun b => B ≤ b ∧ b < V.heap.size) V (d + 1) x v := by
  obtain ⟨p1, c1, p2, c2, p3, c3, M, vals, ev, f1, f2, h1, h2, h12, hM, hMV, K, hk, hn, ht, hr⟩ := h
  refine ⟨⟨⟨p1, _, c1, p2, _, c2, p3, c3, ev, f1.rd, f1.sl, f2.rd, f2.sl, (K.kq rfl hr).mp fun y v h => h.imp fun b hb => ⟨Nat.le_trans hM hb.1, hb.2.1⟩, own_sl K.own⟩, hk, hn, ht⟩, fun a n c ha => ?_⟩
  rw [ev] at ha
  simp at ha
  rcases ha with ⟨e, _⟩ | ⟨e, _⟩ | ⟨e, _⟩
  · exact ft_lt f1 a e.symm
  · exact ft_lt f2 a e.symm
  · have e1 : (Value.slice p3 x.ks.length c3).ownBlock = some a.block := by rw [← e]; rfl
    have := own_at6 K.own _ e1
    omega
/-- What a call of own hands out. -/
def OwT (d : Nat) (x : Tr d) (w : World) (e : Ending) (w' : World) : Prop := ∃ v0 v1 v2 v3 v4 v5 : Value, e = .returned (.agg #[v0, v1, v2, v3, v4, v5]) ∧ Tq (fun b => w.heap.size ≤ b ∧ b < w'.heap.size) w' d x [v0, v1, v2, v3, v4, v5] ∧ Below w.heap.size w w'
def OwP (d : Nat) (x : Tr (d + 1)) (w : World) (e : Ending) (w' : World) : Prop := ∃ v0 v1 v2 v3 v4 v5 : Value, e = .returned (.agg #[v0, v1, v2, v3, v4, v5]) ∧ OwN d x w.heap.size w' [v0, v1, v2, v3, v4, v5] ∧ Below w.heap.size w w'
end Go.Proofs.YtiahilelcppfgaaGreat
