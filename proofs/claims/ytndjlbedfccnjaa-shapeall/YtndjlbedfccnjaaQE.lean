
/- ShapeAll: the row of hands and the row of lists, each grown by append. -/

import Derived.Test.YtndjlbedfccnjaaQD

namespace Go.Proofs.Ytndjlbedfccnjaa

open Go.RowKit

set_option linter.unusedVariables false

theorem info25 : (Try.prog.info? 25).map (fun i => (i.zero, i.size, i.bytes)) = some (some (.slice none 0 0), 1, 24) := by kernel_rfl
theorem info27 : (Try.prog.info? 27).map (fun i => (i.zero, i.size, i.bytes)) = some (some (.agg #[.slice none 0 0]), 1, 24) := by kernel_rfl

theorem run_app {t e : TypeId} {z : Value} (und : Try.prog.underlying t = some (.slice e)) (inf : (Try.prog.info? e).map (fun i => (i.zero, i.size, i.bytes)) = some (some z, 1, 24)) (hzs : z.cells.size = 1) {w : World} (tt : TypeId) (B : Nat) (ao bo : Option Addr) (n cap m cap' : Nat) (vs news : List Value) (h : w.ownsRow B e 1 (.slice ao n cap) n vs) (hnil : bo = none → m = 0 ∧ cap' = 0) (hl : news.length = m) (hnews : ∀ ad, bo = some ad → ∀ j u, news[j]? = some u → w.cell? (ad.add j) = some u) (h1 : ∀ u ∈ news, u.oneCell' = true) (hr : (n + m) * 24 ≤ 140737488355328) (hB : B ≤ w.heap.size) :
    ∃ co c w', (Builtin.append_ #[t, t] tt #[.slice ao n cap, .slice bo m cap']).run Try.prog w = .ok (.slice co (n + m) c) w' ∧ w'.ownsRow B e 1 (.slice co (n + m) c) (n + m) (vs ++ news) ∧ w.grownBy w' (Value.slice ao n cap).ownBlock ∧ ((Value.slice co (n + m) c).ownBlock = (Value.slice ao n cap).ownBlock ∨ (Value.slice co (n + m) c).ownBlock = some w.heap.size) := by
  obtain ⟨i0, hi, hz0, hz1, hz2⟩ := info_parts inf
  cases bo with
  | none =>
    obtain ⟨rfl, rfl⟩ := hnil rfl
    have hy : news = [] := List.eq_nil_of_length_eq_zero hl
    subst hy
    have hrun := run_append_owned_none (P := Try.prog) (w := w) B t tt e i0 1 und hi _ n _ h
    refine ⟨ao, cap, w, hrun, ?_, World.grownBy.refl _ _, .inl ?_⟩
    · rw [List.append_nil]; exact h
    · cases ao <;> rfl
  | some a =>
    obtain ⟨v', w', hrun, hown, hgrow, _, hat⟩ := run_append_own_at (P := Try.prog) w B t tt e i0 z 1 24 und hi hz0 hz1 hz2 hzs (by decide) _ n _ h a m cap' news (by rw [hl, Nat.mul_one]) (hnews a rfl) h1 (by unfold maxLen; omega) hr hB
    have hv : ∃ co c, v' = .slice co (n + m) c := by
      rcases hown.2 with ⟨e1, e2⟩ | ⟨g, cp, cur, e1, _⟩
      · exact ⟨none, 0, by rw [e1, e2]⟩
      · exact ⟨_, cp, e1⟩
    obtain ⟨co, c, rfl⟩ := hv
    exact ⟨co, c, w', hrun, hown, hgrow, hat⟩

theorem wpList_app {t e : TypeId} {z : Value} (und : Try.prog.underlying t = some (.slice e)) (inf : (Try.prog.info? e).map (fun i => (i.zero, i.size, i.bytes)) = some (some z, 1, 24)) (hzs : z.cells.size = 1) {w : World} {ops : Array Oper} {rest : List Oper} {o : Oper} {a : Act} {Q : Exit → Act → World → Prop} (hgd : o.guard = none) (s x : Operand)
    (ho : o.op = .call { callee := .builtin .append, args := #[s, x], argTypes := #[t, t] }) (B : Nat) (ao bo : Option Addr) (n cap m cap' : Nat) (vs news : List Value) (hs : a.eval s = .slice ao n cap) (hx : a.eval x = .slice bo m cap') (h : w.ownsRow B e 1 (.slice ao n cap) n vs) (hnil : bo = none → m = 0 ∧ cap' = 0) (hl : news.length = m) (hnews : ∀ ad, bo = some ad → ∀ j u, news[j]? = some u → w.cell? (ad.add j) = some u) (h1 : ∀ u ∈ news, u.oneCell' = true) (hr : (n + m) * 24 ≤ 140737488355328) (hB : B ≤ w.heap.size)
    (hK : ∀ co c w', w'.ownsRow B e 1 (.slice co (n + m) c) (n + m) (vs ++ news) → w.grownBy w' (Value.slice ao n cap).ownBlock → ((Value.slice co (n + m) c).ownBlock = (Value.slice ao n cap).ownBlock ∨ (Value.slice co (n + m) c).ownBlock = some w.heap.size) → wpList Try.prog ops Q rest (a.put o.dst (.slice co (n + m) c)) w') : wpList Try.prog ops Q (o :: rest) a w := by
  obtain ⟨co, c, w', hrun, hf, hg, hw⟩ := run_app und inf hzs o.type B ao bo n cap m cap' vs news h hnil hl hnews h1 hr hB
  exact wpList_append_run hgd s x t ho _ (by rw [hs, hx]; exact hrun) (hK _ _ _ hf hg hw)

/-- A slice that is nothing, or the head of a row of the law's own. -/
def Ow (W : World) (B : Nat) (e : TypeId) (ao : Option Addr) (n cap : Nat) : Prop :=
  (ao = none ∧ n = 0 ∧ cap = 0) ∨ ∃ x cur, ao = some ⟨x, 0, none⟩ ∧ B ≤ x ∧ W.heap[x]? = some (.cells cur e (0, 0)) ∧ n ≤ cap ∧ cap ≤ maxLen ∧ cur.size = cap
theorem ow_of {W : World} {B : Nat} {e : TypeId} {ao : Option Addr} {n cap : Nat} {vs : List Value} (h : W.ownsRow B e 1 (.slice ao n cap) n vs) : Ow W B e ao n cap := by
  rcases h.2 with ⟨e1, e2⟩ | ⟨g, cp, cur, e1, hb, hg, hn, hm, hs, _⟩
  · cases e1; exact .inl ⟨rfl, e2, rfl⟩
  · cases e1; exact .inr ⟨g, cur, rfl, hb, hg, hn, hm, by omega⟩
theorem Ow.own {W : World} {B : Nat} {e : TypeId} {ao : Option Addr} {n cap : Nat} (h : Ow W B e ao n cap) : ∃ vs, W.ownsRow B e 1 (.slice ao n cap) n vs := by
  rcases h with ⟨rfl, rfl, rfl⟩ | ⟨x, cur, rfl, hb, hg, hn, hm, hs⟩
  · exact ⟨[], World.ownsRow_nil _ _ _ _⟩
  · exact ⟨cur.toList.take n, by simp; omega, .inr ⟨x, cap, cur, rfl, hb, hg, hn, hm, by omega, by simp⟩⟩
theorem Ow.head {W : World} {B : Nat} {e : TypeId} {ao : Option Addr} {n cap : Nat} (h : Ow W B e ao n cap) : Ow W B e ao 0 cap := by
  rcases h with ⟨rfl, rfl, rfl⟩ | ⟨x, cur, rfl, hb, hg, hn, hm, hs⟩
  · exact .inl ⟨rfl, rfl, rfl⟩
  · exact .inr ⟨x, cur, rfl, hb, hg, Nat.zero_le _, hm, hs⟩
theorem Ow.same {W W' : World} {B : Nat} {e : TypeId} {ao : Option Addr} {n cap : Nat} (h : Ow W B e ao n cap) (hb : ∀ x, ao = some ⟨x, 0, none⟩ → x < W.heap.size → W'.heap[x]? = W.heap[x]?) : Ow W' B e ao n cap := by
  rcases h with h | ⟨x, cur, rfl, h1, hg, hn, hm, hs⟩
  · exact .inl h
  · exact .inr ⟨x, cur, rfl, h1, (hb x rfl (Array.getElem?_eq_some_iff.1 hg).1).trans hg, hn, hm, hs⟩
theorem Ow.form {W : World} {B : Nat} {e : TypeId} {n cap : Nat} {a : Addr} (h : Ow W B e (some a) n cap) : a = ⟨a.block, 0, none⟩ ∧ B ≤ a.block ∧ (∃ cur, W.heap[a.block]? = some (.cells cur e (0, 0)) ∧ cur.size = cap) ∧ n ≤ cap := by
  rcases h with ⟨e, _⟩ | ⟨x, cur, e1, hb, hg, hn, hm, hs⟩
  · cases e
  · cases e1; exact ⟨rfl, hb, ⟨cur, hg, hs⟩, hn⟩

/-- Blocks of the law's own kinds. -/
def Kd (w : World) (B hb p : Nat) : Prop := B ≤ p ∧ (p = hb ∨ ∃ cur t, w.heap[p]? = some (.cells cur t (0, 0)) ∧ (t = 3 ∨ t = 25 ∨ t = 27))
/-- All blocks but those of the law's own kinds are as they were. -/
structure Kn (B hb : Nat) (w w' : World) : Prop where
  os : w'.os = w.os
  tape : w'.tape = w.tape
  output : w'.output = w.output
  size : w.heap.size ≤ w'.heap.size
  block : ∀ p, p < w.heap.size → ¬ Kd w B hb p → w'.heap[p]? = w.heap[p]?
theorem Kn.refl (B hb : Nat) (w : World) : Kn B hb w w := ⟨rfl, rfl, rfl, Nat.le_refl _, fun _ _ _ => rfl⟩
theorem Kn.trans {B hb : Nat} {a b c : World} (h : Kn B hb a b) (k : Kn B hb b c) : Kn B hb a c :=
  ⟨k.os.trans h.os, k.tape.trans h.tape, k.output.trans h.output, Nat.le_trans h.size k.size, fun p hp hn => by
    have e := h.block p hp hn
    refine (k.block p (Nat.lt_of_lt_of_le hp h.size) (fun d => hn ?_)).trans e
    obtain ⟨d1, d2⟩ := d
    refine ⟨d1, d2.imp id (fun ⟨cur, t, x1, x2⟩ => ⟨cur, t, e ▸ x1, x2⟩)⟩⟩
theorem Kn.keep {B hb : Nat} {w w' : World} {T : Nat → Prop} (k : Keep w w' T) (h : ∀ p, p < w.heap.size → T p → Kd w B hb p) : Kn B hb w w' :=
  ⟨k.os, k.tape, k.output, k.size, fun p hp hn => k.block p hp (fun t => hn (h p hp t))⟩
theorem Kn.below {B hb : Nat} {w w' : World} (k : Kn B hb w w') (hB : B ≤ w.heap.size) : Below B w w' :=
  ⟨k.os, k.tape, k.output, k.size, fun p hp => k.block p (by omega) (fun d => by have := d.1; omega)⟩
theorem Kn.grown {B hb : Nat} {w w' : World} (k : w.grownBy w' none) : Kn B hb w w' := Kn.keep (Keep.of k) (fun p _ e => by cases e)

/-- All that the law's hands hold. -/
structure Hv (W : World) (B hb : Nat) (mo : Option Addr) (kn kc : Nat) (xo : Option Addr) (xn xc : Nat) : Prop where
  pl : Pl W B (Ps hb mo kn)
  mc : W.cell? ⟨hb, 2, none⟩ = some (.slice mo kn kc)
  mf : W.frozen? ⟨hb, 2, none⟩ = false
  oc : W.cell? ⟨hb, 3, none⟩ = some (.slice xo xn xc)
  xf : W.frozen? ⟨hb, 3, none⟩ = false
  mr : Ow W B 27 mo kn kc
  xr : Ow W B 25 xo xn xc
  mn : ∀ m, mo = some m → m.block ≠ hb
  xn' : ∀ x, xo = some x → x.block ≠ hb

section
variable {w w' : World} {B hb kn kc xn xc : Nat} {mo xo : Option Addr}

theorem Hv.base (h : Hv w B hb mo kn kc xo xn xc) : B ≤ hb ∧ hb < w.heap.size := by
  obtain ⟨_, _, H⟩ := h.pl.hd hb 0 (.inl ⟨rfl, by omega⟩)
  exact ⟨H.base, World.block_lt_of_cell? w _ H.cell⟩
theorem Hv.row (h : Hv w B hb mo kn kc xo xn xc) {b o g k : Nat} (s : Ps hb mo kn b o) (hc : w.cell? ⟨b, o, none⟩ = some (.slice (some ⟨g, 0, none⟩) k k)) : PRow w g k 0 (fun _ => 0) ∧ B ≤ g ∧ g ≠ b ∧ g ≠ hb ∧ (∀ m, mo = some m → g ≠ m.block) ∧ (∀ x, xo = some x → g ≠ x.block) := by
  obtain ⟨go, gn, H⟩ := h.pl.hd b o s
  obtain ⟨r1, r2, r3, r4, r5⟩ := H.rowOf hc
  subst r2
  obtain ⟨cur, c1, c2, c3⟩ := r5.blk
  refine ⟨r5, r3, r4, h.pl.off b o hb 0 g gn s (.inl ⟨rfl, by omega⟩) hc, fun m e => ?_, fun x e => ?_⟩
  · subst e
    obtain ⟨_, _, ⟨cur', f1, _⟩, _⟩ := h.mr.form
    rintro rfl
    rw [c1] at f1; cases f1
  · subst e
    obtain ⟨_, _, ⟨cur', f1, _⟩, _⟩ := h.xr.form
    rintro rfl
    rw [c1] at f1; cases f1
theorem Hv.mx (h : Hv w B hb mo kn kc xo xn xc) {m x : Addr} (hm : mo = some m) (hx : xo = some x) : m.block ≠ x.block := by
  subst hm; subst hx
  obtain ⟨_, _, ⟨cur, f1, _⟩, _⟩ := h.mr.form
  obtain ⟨_, _, ⟨cur', f2, _⟩, _⟩ := h.xr.form
  intro e
  rw [e, f2] at f1; cases f1
theorem Hv.kdm (h : Hv w B hb mo kn kc xo xn xc) {m : Addr} (hm : mo = some m) : Kd w B hb m.block := by
  subst hm
  obtain ⟨_, f0, ⟨cur, f1, _⟩, _⟩ := h.mr.form
  exact ⟨f0, .inr ⟨cur, _, f1, .inr (.inr rfl)⟩⟩
theorem Hv.kdx (h : Hv w B hb mo kn kc xo xn xc) {x : Addr} (hx : xo = some x) : Kd w B hb x.block := by
  subst hx
  obtain ⟨_, f0, ⟨cur, f1, _⟩, _⟩ := h.xr.form
  exact ⟨f0, .inr ⟨cur, _, f1, .inr (.inl rfl)⟩⟩
theorem Hv.kdr (h : Hv w B hb mo kn kc xo xn xc) {b o g k : Nat} (s : Ps hb mo kn b o) (hc : w.cell? ⟨b, o, none⟩ = some (.slice (some ⟨g, 0, none⟩) k k)) : Kd w B hb g := by
  obtain ⟨r1, r2, _⟩ := h.row s hc
  obtain ⟨cur, c1, _⟩ := r1.blk
  exact ⟨r2, .inr ⟨cur, _, c1, .inl rfl⟩⟩
/-- What the law's hands hold, where only other memory was written, or rows of hands. -/
theorem Hv.same (h : Hv w B hb mo kn kc xo xn xc) (e1 : w'.heap[hb]? = w.heap[hb]?) (e2 : ∀ m, mo = some m → w'.heap[m.block]? = w.heap[m.block]?) (e3 : ∀ x, xo = some x → w'.heap[x.block]? = w.heap[x.block]?) (hp : Pl w' B (Ps hb mo kn)) : Hv w' B hb mo kn kc xo xn xc :=
  ⟨hp, (World.cell?_of_block (a := ⟨hb, 2, none⟩) e1).trans h.mc, (World.frozen?_of_block (a := ⟨hb, 2, none⟩) e1).trans h.mf, (World.cell?_of_block (a := ⟨hb, 3, none⟩) e1).trans h.oc, (World.frozen?_of_block (a := ⟨hb, 3, none⟩) e1).trans h.xf, h.mr.same (fun x e _ => e2 _ e), h.xr.same (fun x e _ => e3 _ e), h.mn, h.xn'⟩
theorem Hv.grown (h : Hv w B hb mo kn kc xo xn xc) (k : w.grownBy w' none) : Hv w' B hb mo kn kc xo xn xc :=
  h.same (k.block hb h.base.2 (by simp)) (fun m e => by subst e; obtain ⟨_, _, ⟨cur, f1, _⟩, _⟩ := h.mr.form; exact k.block _ (Array.getElem?_eq_some_iff.1 f1).1 (by simp)) (fun m e => by subst e; obtain ⟨_, _, ⟨cur, f1, _⟩, _⟩ := h.xr.form; exact k.block _ (Array.getElem?_eq_some_iff.1 f1).1 (by simp)) (h.pl.grown k)
end

theorem own_some {m : Addr} {n c : Nat} {p : Nat} (h : some p = (Value.slice (some m) n c).ownBlock) : p = m.block := Option.some.inj h
theorem own_no {n c : Nat} {p : Nat} (h : some p = (Value.slice none n c).ownBlock) : False := by cases h

/-- A hand more. -/
theorem Hv.more {w w3 : World} {B hb k kc xn xc c : Nat} {mo xo co : Option Addr} {o : Obj} {vs : List Value} (h : Hv w B hb mo k kc xo xn xc) (hv : w.ownsRow B 27 1 (.slice mo k kc) k vs) (gr : (w.alloc o).grownBy w3 (Value.slice mo k kc).ownBlock) (ow : w3.ownsRow B 27 1 (.slice co (k + 1) c) (k + 1) (vs ++ [.slice none 0 0]))
    (wh : (Value.slice co (k + 1) c).ownBlock = (Value.slice mo k kc).ownBlock ∨ (Value.slice co (k + 1) c).ownBlock = some (w.alloc o).heap.size) : Hv (w3.setCell ⟨hb, 2, none⟩ (.slice co (k + 1) c)) B hb co (k + 1) c xo xn xc ∧ Kn B hb w (w3.setCell ⟨hb, 2, none⟩ (.slice co (k + 1) c)) := by
  have hs0 : (w.alloc o).heap.size = w.heap.size + 1 := World.size_alloc _ _
  have hs3 := gr.size
  obtain ⟨hbB, hbl⟩ := h.base
  have how := ow_of ow
  have hco : ∃ mb, co = some ⟨mb, 0, none⟩ ∧ B ≤ mb := by
    rcases how with ⟨_, e, _⟩ | ⟨x, cur, e, hb', _⟩
    · omega
    · exact ⟨x, e, hb'⟩
  obtain ⟨mb, rfl, hmB⟩ := hco
  have hown : ∀ p, some p = (Value.slice mo k kc).ownBlock → ∃ m, mo = some m ∧ p = m.block := fun p e => by
    cases mo with
    | none => exact absurd e (by intro e; cases e)
    | some m => exact ⟨m, rfl, own_some e⟩
  have hmb : mb ≠ hb ∧ ((∃ m, mo = some m ∧ mb = m.block) ∨ w.heap.size < mb) := by
    rcases wh with e | e
    · obtain ⟨m, e1, e2⟩ := hown mb e
      exact ⟨e2 ▸ h.mn m e1, .inl ⟨m, e1, e2⟩⟩
    · have : mb = (w.alloc o).heap.size := Option.some.inj e
      exact ⟨by omega, .inr (by omega)⟩
  have b3 : ∀ p, p < w.heap.size → (∀ m, mo = some m → p ≠ m.block) → w3.heap[p]? = w.heap[p]? := fun p hp hn =>
    (gr.block p (by omega) (fun e => by obtain ⟨m, e1, e2⟩ := hown p e; exact hn m e1 e2)).trans (heap_alloc_old w o hp)
  have b4 : ∀ p, p ≠ hb → (w3.setCell ⟨hb, 2, none⟩ (.slice (some ⟨mb, 0, none⟩) (k + 1) c)).heap[p]? = w3.heap[p]? := fun p hp => heap_setCell_other w3 ⟨hb, 2, none⟩ p _ (by simpa using hp)
  have bh := b3 hb hbl (fun m e => Ne.symm (h.mn m e))
  have ch : ∀ j, j ≠ 2 → (w3.setCell ⟨hb, 2, none⟩ (.slice (some ⟨mb, 0, none⟩) (k + 1) c)).cell? ⟨hb, j, none⟩ = w.cell? ⟨hb, j, none⟩ := fun j hj => (set_other w3 hb 2 j _ hj).trans (World.cell?_of_block (a := ⟨hb, j, none⟩) bh)
  have fh : ∀ j, (w3.setCell ⟨hb, 2, none⟩ (.slice (some ⟨mb, 0, none⟩) (k + 1) c)).frozen? ⟨hb, j, none⟩ = w.frozen? ⟨hb, j, none⟩ := fun j => by rw [World.frozen?_setCell]; exact World.frozen?_of_block (a := ⟨hb, j, none⟩) bh
  have cm : ∀ j, (w3.setCell ⟨hb, 2, none⟩ (.slice (some ⟨mb, 0, none⟩) (k + 1) c)).cell? ⟨mb, j, none⟩ = w3.cell? ⟨mb, j, none⟩ := fun j => World.cell?_of_block (a := ⟨mb, j, none⟩) (b4 mb hmb.1)
  have hvl : vs.length = k := by have := hv.1; omega
  have hmf : ∀ m, mo = some m → m = ⟨m.block, 0, none⟩ := fun m e => by subst e; exact h.mr.form.1
  refine ⟨⟨?_, World.cell?_setCell_same' _ _ _ (by rw [World.cell?_of_block (a := ⟨hb, 2, none⟩) bh, h.mc]; rfl), (fh 2).trans h.mf, (ch 3 (by omega)).trans h.oc, (fh 3).trans h.xf, ?_, ?_, fun m e => by cases e; exact hmb.1, h.xn'⟩, ?_⟩
  · refine h.pl.grow hmB hmb.1 (fun j hj => ⟨ch j (by omega), fh j⟩) hmf (fun j m hj e => ?_) (fun h0 e => ?_) ?_ (fun j => ?_) h.mn (fun b j g gn s e hp => ?_)
    · rw [cm j, ow.cellAt j (by omega), List.getElem?_append_left (by omega)]
      subst e
      have e1 := hmf m rfl
      rw [e1] at hv
      exact (hv.cellAt j (by omega)).symm
    · subst e
      rcases hv.2 with ⟨_, e2⟩ | ⟨g, cp, cur, e2, _⟩
      · omega
      · cases e2
    · rw [cm k, ow.cellAt k (by omega), List.getElem?_append_right (by omega), hvl]
      simp
    · rw [World.frozen?_setCell]; exact ow.frozenAt j
    · obtain ⟨r1, r2, r3, r4, r5, r6⟩ := h.row s e
      have hg := (b4 g r4).trans (b3 g hp.lt r5)
      obtain ⟨cur, x1, x2, x3⟩ := hp.blk
      refine ⟨⟨⟨cur, hg.trans x1, x2, x3⟩, hp.le⟩, ?_⟩
      rcases hmb.2 with ⟨m, e1, e2⟩ | e1
      · rw [e2]; exact r5 m e1
      · have := hp.lt; omega
  · exact how.same (fun x e _ => by cases e; exact b4 _ hmb.1)
  · refine h.xr.same (fun x e hx => ?_)
    exact (b4 x (h.xn' _ e)).trans (b3 x hx (fun m e2 => Ne.symm (h.mx e2 e)))
  · refine ⟨gr.os, gr.tape, gr.output, by simp only [World.size_setCell]; omega, fun p hp hn => ?_⟩
    have p1 : p ≠ hb := fun e => hn ⟨by omega, .inl e⟩
    exact (b4 p p1).trans (b3 p hp (fun m e e2 => hn (e2 ▸ h.kdm e)))

/-- The row of lists is laid anew, or grows. -/
theorem Hv.outs {w w2 w3 : World} {B hb kn kc xn xc xm n c : Nat} {mo xo co : Option Addr} {ls : List Value} (h : Hv w B hb mo kn kc xo xn xc) (g0 : w.grownBy w2 none) (gr : w2.grownBy w3 (Value.slice xo xm xc).ownBlock) (ow : w3.ownsRow B 25 1 (.slice co n c) n ls)
    (wh : (Value.slice co n c).ownBlock = (Value.slice xo xm xc).ownBlock ∨ (Value.slice co n c).ownBlock = some w2.heap.size) : Hv (w3.setCell ⟨hb, 3, none⟩ (.slice co n c)) B hb mo kn kc co n c ∧ Kn B hb w (w3.setCell ⟨hb, 3, none⟩ (.slice co n c)) ∧ (∀ x, co = some x → (w3.setCell ⟨hb, 3, none⟩ (.slice co n c)).heap[x.block]? = w3.heap[x.block]?) ∧ (∀ m, mo = some m → (w3.setCell ⟨hb, 3, none⟩ (.slice co n c)).heap[m.block]? = w.heap[m.block]?) := by
  have hs2 := g0.size
  have hs3 := gr.size
  obtain ⟨hbB, hbl⟩ := h.base
  have how := ow_of ow
  have hown : ∀ p, some p = (Value.slice xo xm xc).ownBlock → ∃ m, xo = some m ∧ p = m.block := fun p e => by
    cases xo with
    | none => exact absurd e (by intro e; cases e)
    | some m => exact ⟨m, rfl, own_some e⟩
  have hcb : ∀ x, co = some x → x.block ≠ hb := fun x e => by
    subst e
    rcases wh with e | e
    · obtain ⟨m, e1, e2⟩ := hown x.block e
      exact e2 ▸ h.xn' m e1
    · have : x.block = w2.heap.size := Option.some.inj e
      omega
  have b3 : ∀ p, p < w.heap.size → (∀ m, xo = some m → p ≠ m.block) → w3.heap[p]? = w.heap[p]? := fun p hp hn =>
    (gr.block p (by omega) (fun e => by obtain ⟨m, e1, e2⟩ := hown p e; exact hn m e1 e2)).trans (g0.block p hp (by simp))
  have b4 : ∀ p, p ≠ hb → (w3.setCell ⟨hb, 3, none⟩ (.slice co n c)).heap[p]? = w3.heap[p]? := fun p hp => heap_setCell_other w3 ⟨hb, 3, none⟩ p _ (by simpa using hp)
  have bh := b3 hb hbl (fun m e => Ne.symm (h.xn' m e))
  have ch : ∀ j, j ≠ 3 → (w3.setCell ⟨hb, 3, none⟩ (.slice co n c)).cell? ⟨hb, j, none⟩ = w.cell? ⟨hb, j, none⟩ := fun j hj => (set_other w3 hb 3 j _ hj).trans (World.cell?_of_block (a := ⟨hb, j, none⟩) bh)
  have fh : ∀ j, (w3.setCell ⟨hb, 3, none⟩ (.slice co n c)).frozen? ⟨hb, j, none⟩ = w.frozen? ⟨hb, j, none⟩ := fun j => by rw [World.frozen?_setCell]; exact World.frozen?_of_block (a := ⟨hb, j, none⟩) bh
  have bm : ∀ m, mo = some m → (w3.setCell ⟨hb, 3, none⟩ (.slice co n c)).heap[m.block]? = w.heap[m.block]? := fun m e => by
    have e1 := h.mn m e
    have e2 : m.block < w.heap.size := by
      subst e
      obtain ⟨_, _, ⟨cur, f1, _⟩, _⟩ := h.mr.form
      exact (Array.getElem?_eq_some_iff.1 f1).1
    exact (b4 _ e1).trans (b3 _ e2 (fun x e3 => h.mx e e3))
  refine ⟨⟨?_, (ch 2 (by omega)).trans h.mc, (fh 2).trans h.mf, World.cell?_setCell_same' _ _ _ (by rw [World.cell?_of_block (a := ⟨hb, 3, none⟩) bh, h.oc]; rfl), (fh 3).trans h.xf, h.mr.same (fun x e _ => bm _ e), how.same (fun x e _ => b4 x (hcb _ e)), h.mn, hcb⟩, ?_, fun x e => b4 _ (hcb x e), bm⟩
  · refine h.pl.same (fun b j s => ?_) (fun b j g gn s e hp => ?_)
    · rcases s with ⟨rfl, hj⟩ | ⟨e, hj⟩
      · exact ⟨ch j (by omega), fh j⟩
      · exact ⟨World.cell?_of_block (a := ⟨b, j, none⟩) (bm ⟨b, 0, none⟩ e), World.frozen?_of_block (a := ⟨b, j, none⟩) (bm ⟨b, 0, none⟩ e)⟩
    · obtain ⟨r1, r2, r3, r4, r5, r6⟩ := h.row s e
      obtain ⟨cur, x1, x2, x3⟩ := hp.blk
      exact ⟨⟨cur, ((b4 g r4).trans (b3 g hp.lt r6)).trans x1, x2, x3⟩, hp.le⟩
  · refine ⟨gr.os.trans g0.os, gr.tape.trans g0.tape, gr.output.trans g0.output, by simp only [World.size_setCell]; omega, fun p hp hn => ?_⟩
    have p1 : p ≠ hb := fun e => hn ⟨by omega, .inl e⟩
    exact (b4 p p1).trans (b3 p hp (fun m e e2 => hn (e2 ▸ h.kdx e)))

/-- One of the many hands is filled, and its list laid into the row of lists. -/
theorem Hv.fill {w w2 : World} {B hb kn kc xn xc m k g c n x : Nat} {mo go : Option Addr} {gn : Nat} {zs : List Int} {v : Value} (h : Hv w B hb mo kn kc (some ⟨x, 0, none⟩) xn xc) (hm : mo = some ⟨m, 0, none⟩) (hk : k < kn) (hc : w.cell? ⟨m, k, none⟩ = some (.slice go gn gn)) (H : Handed w w2 B m k go n zs g c) (hkx : k < xn) :
    Hv (w2.setCell ⟨x, k, none⟩ v) B hb mo kn kc (some ⟨x, 0, none⟩) xn xc ∧ Kn B hb w (w2.setCell ⟨x, k, none⟩ v) ∧ (w2.setCell ⟨x, k, none⟩ v).cell? ⟨x, k, none⟩ = some v ∧ (∀ j, j ≠ k → (w2.setCell ⟨x, k, none⟩ v).cell? ⟨x, j, none⟩ = w.cell? ⟨x, j, none⟩) ∧ PRow (w2.setCell ⟨x, k, none⟩ v) g c c (marked zs n) ∧ (w2.setCell ⟨x, k, none⟩ v).cell? ⟨m, k, none⟩ = some (.slice (some ⟨g, 0, none⟩) c c) ∧ (∀ j, j ≠ k → (w2.setCell ⟨x, k, none⟩ v).cell? ⟨m, j, none⟩ = w.cell? ⟨m, j, none⟩) ∧
    (∀ p, p < w.heap.size → p ≠ x → p ≠ m → some p ≠ (Value.slice go 0 0).ownBlock → (w2.setCell ⟨x, k, none⟩ v).heap[p]? = w.heap[p]?) ∧ (go = some ⟨g, 0, none⟩ ∨ w.heap.size ≤ g) := by
  obtain ⟨hbB, hbl⟩ := h.base
  have S0 : Ps hb mo kn m k := .inr ⟨hm, hk⟩
  have hmb : m ≠ hb := h.mn _ hm
  have hmx : m ≠ x := h.mx hm rfl
  have hxb : x ≠ hb := h.xn' _ rfl
  obtain ⟨_, _, ⟨cx, fx, sx⟩, nx⟩ := h.xr.form
  simp only at fx
  have xl : x < w.heap.size := (Array.getElem?_eq_some_iff.1 fx).1
  have hrow : ∀ t, some t = (Value.slice go 0 0).ownBlock → go = some ⟨t, 0, none⟩ := fun t e => by
    obtain ⟨_, _, H0⟩ := h.pl.hd m k S0
    have e0 := H0.cell.symm.trans hc
    simp only [Option.some.injEq, Value.slice.injEq] at e0
    rcases H0.row with ⟨e1, _⟩ | ⟨g', e1, _⟩
    · rw [← e0.1, e1] at e; cases e
    · rw [← e0.1, e1] at e; rw [← e0.1, e1]; cases e; rfl
  have b2 : ∀ p, p < w.heap.size → p ≠ m → some p ≠ (Value.slice go 0 0).ownBlock → w2.heap[p]? = w.heap[p]? := fun p hp h1 h2 => H.keep.block p hp (fun e => e.elim h1 h2)
  have nr : ∀ p, (∀ t, w.cell? ⟨m, k, none⟩ = some (.slice (some ⟨t, 0, none⟩) gn gn) → t ≠ p) → some p ≠ (Value.slice go 0 0).ownBlock := fun p hp e => by
    have e1 := hrow p e
    subst e1
    exact hp p hc rfl
  have hb2 : w2.heap[hb]? = w.heap[hb]? := b2 hb hbl (Ne.symm hmb) (nr hb (fun t e => (h.row S0 e).2.2.2.1))
  have hx2 : w2.heap[x]? = w.heap[x]? := b2 x xl (Ne.symm hmx) (nr x (fun t e => (h.row S0 e).2.2.2.2.2 _ rfl))
  have b4 : ∀ p, p ≠ x → (w2.setCell ⟨x, k, none⟩ v).heap[p]? = w2.heap[p]? := fun p hp => heap_setCell_other w2 ⟨x, k, none⟩ p _ (by simpa using hp)
  have hx4 : (w2.setCell ⟨x, k, none⟩ v).heap[x]? = some (.cells (cx.setIfInBounds k v) 25 (0, 0)) := heap_setCell_same w2 x k cx _ v (hx2.trans fx)
  have hgx : g ≠ x := by
    obtain ⟨cur, c1, _⟩ := H.row.blk
    rintro rfl
    rw [hx2, fx] at c1; cases c1
  have P2 : Pl w2 B (Ps hb mo kn) := h.pl.one S0 hc ⟨H.cell, H.frozen, (h.kdm hm).1, .inr ⟨g, rfl, H.base, H.ne, H.row.weak⟩⟩ H.fresh H.keep H.others
  have hm2 : Ow w2 B 27 mo kn kc := by
    subst hm
    rcases h.mr with ⟨e, _⟩ | ⟨y, cur, e, h1, h2, h3, h4, h5⟩
    · cases e
    · cases e
      obtain ⟨cur', x1, x2⟩ := H.blk cur _ h2
      exact .inr ⟨m, cur', rfl, h1, x1, h3, h4, by omega⟩
  have cm : ∀ j, (w2.setCell ⟨x, k, none⟩ v).cell? ⟨m, j, none⟩ = w2.cell? ⟨m, j, none⟩ := fun j => World.cell?_of_block (a := ⟨m, j, none⟩) (b4 m hmx)
  have eb := (b4 hb (Ne.symm hxb)).trans hb2
  refine ⟨⟨?_, (World.cell?_of_block (a := ⟨hb, 2, none⟩) eb).trans h.mc, (World.frozen?_of_block (a := ⟨hb, 2, none⟩) eb).trans h.mf, (World.cell?_of_block (a := ⟨hb, 3, none⟩) eb).trans h.oc, (World.frozen?_of_block (a := ⟨hb, 3, none⟩) eb).trans h.xf, hm2.same (fun y e _ => by rw [hm] at e; cases e; exact b4 m hmx), ?_, h.mn, h.xn'⟩, ?_, ?_, fun j hj => ?_, ?_, (cm k).trans H.cell, fun j hj => (cm j).trans (H.others j hj).1, fun p hp h1 h2 h3 => (b4 p h1).trans (b2 p hp h2 h3), H.fresh⟩
  · refine P2.same (fun b j s => ?_) (fun b j t tn s e hp => ?_)
    · have e1 : b ≠ x := by
        rcases s with ⟨rfl, _⟩ | ⟨e, _⟩
        · exact Ne.symm hxb
        · rw [hm] at e; cases e; exact hmx
      exact ⟨World.cell?_of_block (a := ⟨b, j, none⟩) (b4 b e1), World.frozen?_of_block (a := ⟨b, j, none⟩) (b4 b e1)⟩
    · obtain ⟨cur, x1, x2, x3⟩ := hp.blk
      have e1 : t ≠ x := by
        rintro rfl
        rw [hx2, fx] at x1; cases x1
      exact ⟨⟨cur, (b4 t e1).trans x1, x2, x3⟩, hp.le⟩
  · rcases h.xr with ⟨e, _⟩ | ⟨y, cur, e, h1, h2, h3, h4, h5⟩
    · cases e
    · cases e
      exact .inr ⟨x, _, rfl, h1, hx4, h3, h4, by simpa using sx⟩
  · refine ⟨H.keep.os, H.keep.tape, H.keep.output, by simp only [World.size_setCell]; exact H.keep.size, fun p hp hn => ?_⟩
    have p1 : p ≠ x := fun e => hn (e ▸ h.kdx rfl)
    have p2 : p ≠ m := fun e => hn (e ▸ h.kdm hm)
    refine (b4 p p1).trans (b2 p hp p2 (fun e => ?_))
    have e1 := hrow p e
    subst e1
    exact hn (h.kdr S0 hc)
  · exact World.cell?_setCell_same' _ _ _ (by rw [World.cell?_of_block (a := ⟨x, k, none⟩) hx2, cell_of_row w x k cx _ (0, 0) fx]; simp; omega)
  · rw [set_other w2 x k j v hj]; exact World.cell?_of_block (a := ⟨x, j, none⟩) hx2
  · obtain ⟨cur, x1, x2, x3⟩ := H.row.blk
    exact ⟨⟨cur, (b4 g hgx).trans x1, x2, x3⟩, H.row.le⟩
end Go.Proofs.Ytndjlbedfccnjaa
