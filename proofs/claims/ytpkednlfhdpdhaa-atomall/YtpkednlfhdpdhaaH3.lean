
/- The memory in which an array is handed in is filled: a short array. -/

import Derived.Test.YtpkednlfhdpdhaaR1

import Derived.Test.YtpkednlfhdpdhaaB5m

import Derived.Maps.AppendAt

import Derived.Deep.DeepCutAuto

import Derived.Deep.CutBlock

namespace Go.Proofs.Ytpkednlfhdpdhaa

open Go.RowKit

set_option linter.unusedVariables false

/-- A row of numbers whose first m are told. -/
structure Pr (e : TypeId) (W : World) (g cap m : Nat) (f : Nat → Int) : Prop where
  blk : ∃ cur, W.heap[g]? = some (.cells cur e (0, 0)) ∧ cur.size = cap ∧ ∀ k, k < m → cur[k]? = some (.int .i64 (f k))
  le : cap ≤ 9223372036854775807

section

variable {e : TypeId} {W W' : World} {g cap m : Nat} {f : Nat → Int}

theorem Pr.lt (h : Pr e W g cap m f) : g < W.heap.size := by
  obtain ⟨cur, h1, _⟩ := h.blk
  exact (Array.getElem?_eq_some_iff.1 h1).1
theorem Pr.cell (h : Pr e W g cap m f) {k : Nat} (hk : k < m) : W.cell? ⟨g, k, none⟩ = some (.int .i64 (f k)) := by
  obtain ⟨cur, h1, h2, h3⟩ := h.blk
  rw [cell_of_row W g k cur e (0, 0) h1]; exact h3 k hk
theorem Pr.is (h : Pr e W g cap m f) {k : Nat} (hk : k < cap) : ∃ v, W.cell? ⟨g, k, none⟩ = some v := by
  obtain ⟨cur, h1, h2, h3⟩ := h.blk
  rw [cell_of_row W g k cur e (0, 0) h1]
  exact ⟨cur[k], by simp [h2, hk]⟩
theorem Pr.frozen (h : Pr e W g cap m f) (k : Nat) : W.frozen? ⟨g, k, none⟩ = false := by
  obtain ⟨cur, h1, h2, h3⟩ := h.blk
  exact frozen_of_row W g k cur e h1
theorem Pr.set (h : Pr e W g cap m f) (hm : m < cap) (u : Int) (hu : f m = u) : Pr e (W.setCell ⟨g, m, none⟩ (.int .i64 u)) g cap (m + 1) f := by
  obtain ⟨cur, h1, h2, h3⟩ := h.blk
  refine ⟨⟨cur.setIfInBounds m (.int .i64 u), heap_setCell_same W g m cur e _ h1, by simpa using h2, fun k hk => ?_⟩, h.le⟩
  by_cases c : k = m
  · subst c; rw [hu]; simp [h2, hm]
  · rw [Array.getElem?_setIfInBounds_ne (Ne.symm c)]; exact h3 k (by omega)
theorem Pr.put {f' : Nat → Int} (m : Nat) (h : Pr e W g cap cap f) (hm : m < cap) (u : Int) (hu : f' m = u) (ho : ∀ k, k ≠ m → f' k = f k) : Pr e (W.setCell ⟨g, m, none⟩ (.int .i64 u)) g cap cap f' := by
  obtain ⟨cur, h1, h2, h3⟩ := h.blk
  refine ⟨⟨cur.setIfInBounds m (.int .i64 u), heap_setCell_same W g m cur e _ h1, by simpa using h2, fun k hk => ?_⟩, h.le⟩
  by_cases c : k = m
  · subst c; rw [hu]; simp [h2, hm]
  · rw [Array.getElem?_setIfInBounds_ne (Ne.symm c), ho k c]; exact h3 k hk
theorem Pr.kept {row : Option Nat} (h : Pr e W g cap m f) (hg : W.grownBy W' row) (hne : some g ≠ row) : Pr e W' g cap m f := by
  obtain ⟨cur, h1, h2, h3⟩ := h.blk
  exact ⟨⟨cur, (hg.block g h.lt hne).trans h1, h2, h3⟩, h.le⟩
theorem Pr.same (h : Pr e W g cap m f) (hb : W'.heap[g]? = W.heap[g]?) : Pr e W' g cap m f := by
  obtain ⟨cur, h1, h2, h3⟩ := h.blk
  exact ⟨⟨cur, hb.trans h1, h2, h3⟩, h.le⟩
theorem Pr.less {m' : Nat} {f' : Nat → Int} (h : Pr e W g cap m f) (hm : m' ≤ m) (hf : ∀ k, k < m' → f' k = f k) : Pr e W g cap m' f' := by
  obtain ⟨cur, h1, h2, h3⟩ := h.blk
  exact ⟨⟨cur, h1, h2, fun k hk => by rw [hf k hk]; exact h3 k (by omega)⟩, h.le⟩
/-- Its first numbers read as a list. -/
theorem Pr.rd {n : Nat} {zs : List Int} (h : Pr e W g cap m f) (hn : n ≤ m) (hl : zs.length = n) (hr : n * 8 ≤ 140737488351232) (hnum : ∀ k, k < n → -9223372036854775808 ≤ nth zs k ∧ nth zs k ≤ 9223372036854775807) (hf : ∀ k, k < n → f k = nth zs k) : Rd W (some ⟨g, 0, none⟩) n zs :=
  ⟨hl, hr, hnum, fun _ => ⟨g, 0, rfl, h.lt, fun k hk => by rw [Nat.zero_add, h.cell (by omega), hf k hk]⟩⟩
end

/-- Nothing, or a row of its own with all its room. -/
structure Rw (e : TypeId) (W : World) (B : Nat) (go : Option Addr) (n : Nat) : Prop where
  is : (go = none ∧ n = 0) ∨ ∃ g, go = some ⟨g, 0, none⟩ ∧ B ≤ g ∧ Pr e W g n 0 (fun _ => 0)
theorem Rw.nil (e : TypeId) (W : World) (B : Nat) : Rw e W B none 0 := ⟨.inl ⟨rfl, rfl⟩⟩
theorem Rw.le {e : TypeId} {W : World} {B : Nat} {go : Option Addr} {n : Nat} (h : Rw e W B go n) : n ≤ 9223372036854775807 := by
  rcases h.is with ⟨_, rfl⟩ | ⟨g, _, _, p⟩
  · omega
  · exact p.le
theorem Rw.ft {e : TypeId} {W : World} {B : Nat} {go : Option Addr} {n : Nat} (h : Rw e W B go n) : Ft e W B go 0 n [] := by
  rcases h.is with ⟨rfl, rfl⟩ | ⟨g, rfl, h1, h3⟩
  · exact Ft.nil _ _ _
  · obtain ⟨cur, c1, c2, _⟩ := h3.blk
    exact ⟨Rd.empty _ _, rfl, .inr ⟨g, n, cur, rfl, h1, c1, Nat.zero_le _, by unfold maxLen; have := h3.le; omega, by omega, rfl⟩⟩
theorem Rw.same {e : TypeId} {W W' : World} {B : Nat} {go : Option Addr} {n : Nat} (h : Rw e W B go n) (hb : ∀ g, go = some ⟨g, 0, none⟩ → W'.heap[g]? = W.heap[g]?) : Rw e W' B go n := by
  rcases h.is with ⟨rfl, rfl⟩ | ⟨g, rfl, h1, h3⟩
  · exact Rw.nil _ _ _
  · exact ⟨.inr ⟨g, rfl, h1, h3.same (hb g rfl)⟩⟩
theorem Rw.at {e : TypeId} {W : World} {B : Nat} {go : Option Addr} {n : Nat} (h : Rw e W B go n) : ∀ g, go = some ⟨g, 0, none⟩ → B ≤ g ∧ g < W.heap.size ∧ ∃ cur, W.heap[g]? = some (.cells cur e (0, 0)) := by
  rintro g rfl
  rcases h.is with ⟨e, _⟩ | ⟨g', e, h1, h3⟩
  · cases e
  · cases e
    obtain ⟨cur, c1, _⟩ := h3.blk
    exact ⟨h1, h3.lt, cur, c1⟩

/-- An append to a list of one's own: what else becomes of the world, and where the list then lies. -/
theorem run_joinW {s e : TypeId} (ty : Ty s e) {w : World} (tt : TypeId) (B : Nat) (ao bo : Option Addr) (n cap m cap' : Nat) (zs ys : List Int) (h : Ft e w B ao n cap zs) (g : Rd w bo m ys) (gs : Sl bo m cap') (hr : (n + m) * 8 ≤ 140737488351232) (hB : B ≤ w.heap.size) :
    ∃ co c w', (Builtin.append_ #[s, s] tt #[.slice ao n cap, .slice bo m cap']).run Try.prog w = .ok (.slice co (n + m) c) w' ∧ Ft e w' B co (n + m) c (zs ++ ys) ∧ w.grownBy w' (Value.slice ao n cap).ownBlock ∧ ((Value.slice co (n + m) c).ownBlock = (Value.slice ao n cap).ownBlock ∨ (Value.slice co (n + m) c).ownBlock = some w.heap.size) := by
  obtain ⟨i0, hi, hz0, hz1, hz2⟩ := info_parts ty.info
  have hl := h.rd.len
  have gl := g.len
  have hnum : ∀ k, k < n + m → -9223372036854775808 ≤ nth (zs ++ ys) k ∧ nth (zs ++ ys) k ≤ 9223372036854775807 := by
    intro k hk
    by_cases c : k < n
    · have e : nth (zs ++ ys) k = nth zs k := by unfold nth; simp [List.getElem?_append, hl, c]
      rw [e]; exact h.rd.num k c
    · have e : nth (zs ++ ys) k = nth ys (k - n) := by unfold nth; simp [List.getElem?_append, hl, c]
      rw [e]; exact g.num _ (by omega)
  have fin : ∀ v w', w'.ownsRow B e 1 v (n + m) (zs.map (Value.int .i64) ++ ys.map (Value.int .i64)) → ∃ co c, v = .slice co (n + m) c ∧ Ft e w' B co (n + m) c (zs ++ ys) := fun v w' ho =>
    Ft.mk' (by simp [hl, gl]) hr hnum (by rw [List.map_append]; exact ho)
  cases bo with
  | none =>
    obtain ⟨rfl, rfl⟩ := gs.nil rfl
    have hy : ys = [] := List.eq_nil_of_length_eq_zero gl
    subst hy
    have hrun := run_append_owned_none (P := Try.prog) (w := w) B s tt e i0 1 ty.und hi _ n _ h.own
    refine ⟨ao, cap, w, hrun, ?_, World.grownBy.refl _ _, .inl ?_⟩
    · rw [List.append_nil]; exact h
    · cases ao <;> rfl
  | some a =>
    have hnews : ∀ j u, (ys.map (Value.int .i64))[j]? = some u → w.cell? (a.add j) = some u := by
      intro j u hu
      have hj : j < m := by
        have := (List.getElem?_eq_some_iff.1 hu).1
        simpa [gl] using this
      obtain ⟨b, off, e, _, hc⟩ := g.cells (by omega)
      cases e
      exact Rd.news gl hc j u hu
    obtain ⟨v', w', hrun, hown, hgrow, _, hat⟩ := run_append_own_at (P := Try.prog) w B s tt e i0 (.int .i64 0) 1 8 ty.und hi hz0 hz1 hz2 rfl (by decide) _ n _ h.own a m cap' (ys.map (Value.int .i64)) (by rw [List.length_map, gl, Nat.mul_one]) hnews (ints_one ys) (by unfold maxLen; omega) (by omega) hB
    obtain ⟨co, c, rfl, hf⟩ := fin _ _ hown
    exact ⟨co, c, w', hrun, hf, hgrow, hat⟩

/-- The same as one step of a region that draws its order. -/
theorem step_joinW {s e : TypeId} (ty : Ty s e) {ops : Array Oper} {o : Oper} {a : Act} {w : World} {K : Act → World → Prop} {Q : Exit → Act → World → Prop} {E : Prop}
    (hg : o.guard = none) (p x : Operand) (ho : o.op = .call { callee := .builtin .append, args := #[p, x], argTypes := #[s, s] }) (B : Nat) (N : Nat) (ao bo : Option Addr) (n cap m cap' : Nat) (zs ys : List Int) (hN : n + m = N)
    (hs : a.eval p = .slice ao n cap) (hx : a.eval x = .slice bo m cap') (h : Ft e w B ao n cap zs) (g : Rd w bo m ys) (gs : Sl bo m cap') (hr : (n + m) * 8 ≤ 140737488351232) (hB : B ≤ w.heap.size)
    (hK : ∀ co c w', Ft e w' B co N c (zs ++ ys) → w.grownBy w' (Value.slice ao n cap).ownBlock → ((Value.slice co N c).ownBlock = (Value.slice ao n cap).ownBlock ∨ (Value.slice co N c).ownBlock = some w.heap.size) → K (a.put o.dst (.slice co N c)) w') :
    if Region.wanted o (yielded ops a.tmps) = true then Oper.wp Try.prog o a w K Q else E := by
  subst hN
  have hw : Region.wanted o (yielded ops a.tmps) = true := by simp [Region.wanted, hg]
  rw [if_pos hw]
  obtain ⟨co, c, w', hrun, hf, h1, h2⟩ := run_joinW ty o.type B ao bo n cap m cap' zs ys h g gs hr hB
  unfold Oper.wp
  simp [execOp, ho, resolve, invoke, builtin, hs, hx, hrun, Result.andThen]
  exact hK _ _ _ hf h1 h2

/-- All that lies outside some blocks is as it was. -/
structure Kp (w w' : World) (S : Nat → Prop) : Prop where
  os : w'.os = w.os
  tape : w'.tape = w.tape
  output : w'.output = w.output
  size : w.heap.size ≤ w'.heap.size
  block : ∀ k, k < w.heap.size → ¬ S k → w'.heap[k]? = w.heap[k]?
theorem Kp.refl (w : World) (S : Nat → Prop) : Kp w w S := ⟨rfl, rfl, rfl, Nat.le_refl _, fun _ _ _ => rfl⟩
theorem Kp.trans {a b c : World} {S T : Nat → Prop} (h : Kp a b S) (k : Kp b c T) (hT : ∀ j, j < a.heap.size → T j → S j) : Kp a c S :=
  ⟨k.os.trans h.os, k.tape.trans h.tape, k.output.trans h.output, Nat.le_trans h.size k.size, fun j hj hn => (k.block j (Nat.lt_of_lt_of_le hj h.size) (fun t => hn (hT j hj t))).trans (h.block j hj hn)⟩
theorem Kp.of {w w' : World} {row : Option Nat} (h : w.grownBy w' row) : Kp w w' (fun b => some b = row) := ⟨h.os, h.tape, h.output, h.size, fun k hk hn => h.block k hk hn⟩
theorem Kp.ofBelow {w w' : World} {S : Nat → Prop} (h : Below w.heap.size w w') : Kp w w' S := ⟨h.os, h.tape, h.output, h.size, fun k hk _ => h.block k hk⟩
theorem Kp.below {w w' : World} {S : Nat → Prop} {B : Nat} (h : Kp w w' S) (hB : B ≤ w.heap.size) (hS : ∀ j, j < B → ¬ S j) : Below B w w' := ⟨h.os, h.tape, h.output, h.size, fun k hk => h.block k (by omega) (hS k hk)⟩
theorem Kp.wide {a b : World} {S T : Nat → Prop} (h : Kp a b S) (hT : ∀ j, S j → T j) : Kp a b T := ⟨h.os, h.tape, h.output, h.size, fun k hk hn => h.block k hk (fun s => hn (hT k s))⟩
end Go.Proofs.Ytpkednlfhdpdhaa

namespace Go.Proofs.Ytpkednlfhdpdhaa

open Go.RowKit

set_option linter.unusedVariables false

theorem short_any (so ao : Option Addr) (sn sc an ac : Nat) (w : World) : Calls Try.prog 20 #[.agg #[.slice so sn sc, .slice ao an ac]] w fun e w' => e = .returned (.bool (decide (sn ≤ 5000) && decide (an ≤ 5000))) ∧ Below w.heap.size w w' := by
  have hb := box_below w (.cells #[.slice so sn sc, .slice ao an ac] 30)
  by_cases h1 : sn ≤ 5000
  · by_cases h2 : an ≤ 5000
    · have g1 : decide ((sn : Int) ≤ 5000) = true := by simp; omega
      have g2 : decide ((an : Int) ≤ 5000) = true := by simp; omega
      have HR : Hid ((decide (sn ≤ 5000) && decide (an ≤ 5000)) = true) := by show _ = _; simp [h1, h2]
      go_enter Try.func20, Try.ntmps20
      go_wp2
      go_ret
      exact ⟨ret_bool (by first | exact HR.out.symm | (rw [HR.out]; simp)), hb⟩
    · have g1 : decide ((sn : Int) ≤ 5000) = true := by simp; omega
      have g2 : decide ((an : Int) ≤ 5000) = false := by simp; omega
      have HR : Hid ((decide (sn ≤ 5000) && decide (an ≤ 5000)) = false) := by show _ = _; simp [h2]
      go_enter Try.func20, Try.ntmps20
      go_wp2
      go_ret
      exact ⟨ret_bool (by first | exact HR.out.symm | (rw [HR.out]; simp)), hb⟩
  · have g1 : decide ((sn : Int) ≤ 5000) = false := by simp; omega
    have HR : Hid ((decide (sn ≤ 5000) && decide (an ≤ 5000)) = false) := by show _ = _; simp [h1]
    go_enter Try.func20, Try.ntmps20
    go_wp2
    go_ret
    exact ⟨ret_bool (by first | exact HR.out.symm | (rw [HR.out]; simp)), hb⟩

/-- The block of a row that begins a block. -/
def ownB (go : Option Addr) : Option Nat := (Value.slice go 0 0).ownBlock
theorem own_slice (go : Option Addr) (n c : Nat) : (Value.slice go n c).ownBlock = ownB go := by cases go <;> rfl

/-- A hand: its box, and two rows of its own. -/
structure Hx (W : World) (B hb : Nat) (go0 : Option Addr) (n0 : Nat) (go1 : Option Addr) (n1 : Nat) : Prop where
  box : W.heap[hb]? = some (.cells #[.slice go0 n0 n0, .slice go1 n1 n1] 28 (0, 0))
  base : B ≤ hb
  r0 : Rw 3 W B go0 n0
  r1 : Rw 2 W B go1 n1

/-- While a hand is filled. -/
structure La (w W : World) (B hb p : Nat) (so : Option Addr) (sn sc : Nat) (ao : Option Addr) (an ac : Nat) (sh at' : List Int) (go0 go1 : Option Addr) (ho0 : Option Addr) (m0 : Nat) (ho1 : Option Addr) (m1 : Nat) : Prop where
  hbox : W.heap[hb]? = some (.cells #[.slice ho0 m0 m0, .slice ho1 m1 m1] 28 (0, 0))
  base : B ≤ hb
  abox : W.heap[p]? = some (.cells #[.slice so sn sc, .slice ao an ac] 30 (0, 0))
  rbox : W.heap[p + 1]? = some (.cells #[.slice none 0 0, .slice none 0 0] 30 (0, 0))
  s : Rd W so sn sh
  a : Rd W ao an at'
  ls : 0 < sn → ∀ b off, so = some ⟨b, off, none⟩ → b < B
  la : 0 < an → ∀ b off, ao = some ⟨b, off, none⟩ → b < B
  kp : Kp w W (fun b => b = hb ∨ some b = ownB go0 ∨ some b = ownB go1)
  o0 : ho0 = none ∨ ho0 = go0
  o1 : ho1 = none ∨ ho1 = go1
  szB : B ≤ w.heap.size
  pw : p = w.heap.size

section

variable {w W W' : World} {B hb p : Nat} {so : Option Addr} {sn sc : Nat} {ao : Option Addr} {an ac : Nat} {sh at' : List Int} {go0 go1 ho0 : Option Addr} {m0 : Nat} {ho1 : Option Addr} {m1 : Nat}

theorem Rd.low0 {ao : Option Addr} {n : Nat} {zs : List Int} (h : Rd W ao n zs) (hlb : 0 < n → ∀ b off, ao = some ⟨b, off, none⟩ → b < B) (hb : ∀ k, k < B → W'.heap[k]? = W.heap[k]?) (hs : W.heap.size ≤ W'.heap.size) : Rd W' ao n zs := by
  refine ⟨h.len, h.room, h.num, fun hn => ?_⟩
  obtain ⟨b, off, e, hb', hc⟩ := h.cells hn
  exact ⟨b, off, e, Nat.lt_of_lt_of_le hb' hs, fun k hk => (World.cell?_of_block (a := ⟨b, off + k, none⟩) (hb b (hlb hn b off e))).trans (hc k hk)⟩

/-- What changes one row of numbers among the hand's own changes nothing else. -/
theorem La.grow (h : La w W B hb p so sn sc ao an ac sh at' go0 go1 ho0 m0 ho1 m1) {row : Option Nat} (hg : W.grownBy W' row) (hrow : ∀ b, row = some b → B ≤ b ∧ b ≠ hb ∧ b ≠ p ∧ b ≠ p + 1 ∧ (b < w.heap.size → some b = ownB go0 ∨ some b = ownB go1)) : La w W' B hb p so sn sc ao an ac sh at' go0 go1 ho0 m0 ho1 m1 := by
  have l0 := (Array.getElem?_eq_some_iff.1 h.hbox).1
  have l1 := (Array.getElem?_eq_some_iff.1 h.abox).1
  have l2 := (Array.getElem?_eq_some_iff.1 h.rbox).1
  have hsz := h.kp.size
  have hB := h.szB
  refine ⟨(hg.block hb l0 (fun e => (hrow hb e.symm).2.1 rfl)).trans h.hbox, h.base, (hg.block p l1 (fun e => (hrow p e.symm).2.2.1 rfl)).trans h.abox, (hg.block _ l2 (fun e => (hrow _ e.symm).2.2.2.1 rfl)).trans h.rbox, ?_, ?_, h.ls, h.la, ?_, h.o0, h.o1, h.szB, h.pw⟩
  · exact h.s.low0 h.ls (fun k hk => hg.block k (by omega) (fun e => by have := (hrow k e.symm).1; omega)) hg.size
  · exact h.a.low0 h.la (fun k hk => hg.block k (by omega) (fun e => by have := (hrow k e.symm).1; omega)) hg.size
  · refine h.kp.trans (Kp.of hg) (fun j hj e => ?_)
    rcases (hrow j e.symm).2.2.2.2 hj with e | e
    · exact .inr (.inl e)
    · exact .inr (.inr e)
/-- New memory changes nothing. -/
theorem La.below (h : La w W B hb p so sn sc ao an ac sh at' go0 go1 ho0 m0 ho1 m1) (k : Below W.heap.size W W') : La w W' B hb p so sn sc ao an ac sh at' go0 go1 ho0 m0 ho1 m1 :=
  h.grow (row := none) ⟨k.os, k.tape, k.output, k.size, fun j hj _ => k.block j hj⟩ (fun b e => by cases e)
theorem La.drew (h : La w W B hb p so sn sc ao an ac sh at' go0 go1 ho0 m0 ho1 m1) : La w W.drew B hb p so sn sc ao an ac sh at' go0 go1 ho0 m0 ho1 m1 := h.below (Below.refl _ W).drew
theorem La.alloc (h : La w W B hb p so sn sc ao an ac sh at' go0 go1 ho0 m0 ho1 m1) (o : Obj) : La w (W.alloc o) B hb p so sn sc ao an ac sh at' go0 go1 ho0 m0 ho1 m1 := h.below (box_below W o)
/-- All its cells, told. -/
theorem La.all (h : La w W B hb p so sn sc ao an ac sh at' go0 go1 ho0 m0 ho1 m1) : W.cell? ⟨hb, 0, none⟩ = some (.slice ho0 m0 m0) ∧ W.cell? ⟨hb, 1, none⟩ = some (.slice ho1 m1 m1) ∧ W.cell? ⟨p, 0, none⟩ = some (.slice so sn sc) ∧ W.cell? ⟨p, 1, none⟩ = some (.slice ao an ac) ∧ La w W B hb p so sn sc ao an ac sh at' go0 go1 ho0 m0 ho1 m1 := by
  obtain ⟨a1, a2, _, _⟩ := box2 h.hbox
  obtain ⟨b1, b2, _, _⟩ := box2 h.abox
  exact ⟨a1, a2, b1, b2, h⟩
end

/-- Rows of different kinds of numbers lie in different blocks. -/
theorem kinds {W : World} {g : Nat} {c d : Array Value} {e f : TypeId} (h : W.heap[g]? = some (.cells c e (0, 0))) (k : W.heap[g]? = some (.cells d f (0, 0))) : e = f := by
  rw [h] at k; cases k; rfl
theorem Ft.rowH {e : TypeId} {w : World} {B g : Nat} {n cap : Nat} {zs : List Int} (h : Ft e w B (some ⟨g, 0, none⟩) n cap zs) : ∃ cur, w.heap[g]? = some (.cells cur e (0, 0)) ∧ cur.size = cap ∧ cap ≤ 9223372036854775807 ∧ n ≤ cap ∧ ∀ k, k < n → cur[k]? = some (.int .i64 (nth zs k)) := by
  have hl := h.rd.len
  rcases h.own.2 with ⟨e', _⟩ | ⟨g', c', cur, e', hB, hg, hnc, hcm, hcs, ht⟩
  · cases e'
  · cases e'
    refine ⟨cur, hg, by omega, by unfold maxLen at hcm; omega, hnc, fun k hk => ?_⟩
    have h2 : (cur.toList.take (n * 1))[k]? = some (.int .i64 (nth zs k)) := by
      rw [ht]; exact nth_map (by omega)
    rw [List.getElem?_take_of_lt (by omega)] at h2
    simpa using h2
theorem Ft.form {e : TypeId} {w : World} {B : Nat} {ao : Option Addr} {n cap : Nat} {zs : List Int} (h : Ft e w B ao n cap zs) (h0 : 0 < n) : ∃ g, ao = some ⟨g, 0, none⟩ ∧ B ≤ g ∧ g < w.heap.size := by
  rcases h.own.2 with ⟨e1, h1⟩ | ⟨g, c, cur, e1, hB, hg, _⟩
  · omega
  · cases e1; exact ⟨g, rfl, hB, (Array.getElem?_eq_some_iff.1 hg).1⟩
theorem Rw.below {e : TypeId} {W W' : World} {B : Nat} {go : Option Addr} {n : Nat} (h : Rw e W B go n) (k : Below W.heap.size W W') : Rw e W' B go n := h.same fun g e => k.block g (h.at g e).2.1
/-- A row of one kind stays where a row of another kind changes. -/
theorem Rw.other {e f : TypeId} {W W' : World} {B : Nat} {go : Option Addr} {n : Nat} (h : Rw e W B go n) {row : Option Nat} (hg : W.grownBy W' row) (hr : ∀ g, row = some g → ∃ cur, W.heap[g]? = some (.cells cur f (0, 0))) (hef : e ≠ f) : Rw e W' B go n := by
  refine h.same fun g hgo => hg.block g (h.at g hgo).2.1 (fun c => ?_)
  obtain ⟨_, _, cur, c1⟩ := h.at g hgo
  obtain ⟨cur', c2⟩ := hr g c.symm
  exact hef (kinds c1 c2)
theorem Ft.other {e f : TypeId} {W W' : World} {B : Nat} {go : Option Addr} {n c : Nat} {zs : List Int} (h : Ft e W B go n c zs) {row : Option Nat} (hg : W.grownBy W' row) (hr : ∀ g, row = some g → ∃ cur, W.heap[g]? = some (.cells cur f (0, 0))) (hef : e ≠ f) : Ft e W' B go n c zs := by
  refine h.keep1 hg (fun b off hgo hc => ?_)
  obtain ⟨cur', c2⟩ := hr b hc.symm
  rcases h.own.2 with ⟨e', _⟩ | ⟨g', c', cur, e', hB, hg', _⟩
  · cases e'; cases hgo
  · cases e'; cases hgo
    exact hef (kinds hg' c2)
theorem Ft.rows {e : TypeId} {W : World} {B : Nat} {go : Option Addr} {n c : Nat} {zs : List Int} (h : Ft e W B go n c zs) : ∀ g, ownB go = some g → B ≤ g ∧ ∃ cur, W.heap[g]? = some (.cells cur e (0, 0)) := by
  intro g hg
  rcases h.own.2 with ⟨e', _⟩ | ⟨g', c', cur, e', hB, hg', _⟩
  · cases e'; cases hg
  · cases e'; cases hg; exact ⟨hB, cur, hg'⟩
end Go.Proofs.Ytpkednlfhdpdhaa

namespace Go.Proofs.Ytpkednlfhdpdhaa

open Go.RowKit

set_option linter.unusedVariables false

theorem La.append {w W W' : World} {B hb p : Nat} {so : Option Addr} {sn sc : Nat} {ao : Option Addr} {an ac : Nat} {sh at' : List Int} {go0 go1 ho0 : Option Addr} {m0 : Nat} {ho1 : Option Addr} {m1 : Nat}
    (h : La w W B hb p so sn sc ao an ac sh at' go0 go1 ho0 m0 ho1 m1) {e : TypeId} (he : e ≠ 28 ∧ e ≠ 30) {xo : Option Addr} {n c : Nat} {zs : List Int} (F : Ft e W B xo n c zs) (hown : ownB xo = ownB ho0 ∨ ownB xo = ownB ho1 ∨ ∀ b, ownB xo = some b → w.heap.size ≤ b)
    (hg : W.grownBy W' (Value.slice xo n c).ownBlock) : La w W' B hb p so sn sc ao an ac sh at' go0 go1 ho0 m0 ho1 m1 := by
  rw [own_slice] at hg
  refine h.grow hg (fun b hb' => ?_)
  obtain ⟨hB, cur, hc⟩ := F.rows b hb'
  refine ⟨hB, fun e1 => ?_, fun e1 => ?_, fun e1 => ?_, fun hlt => ?_⟩
  · subst e1; exact he.1 (kinds hc h.hbox)
  · subst e1; exact he.2 (kinds hc h.abox)
  · subst e1; exact he.2 (kinds hc h.rbox)
  · rcases hown with e1 | e1 | e1
    · rcases h.o0 with e2 | e2
      · rw [e1, e2] at hb'; cases hb'
      · left; rw [← e2, ← e1]; exact hb'.symm
    · rcases h.o1 with e2 | e2
      · rw [e1, e2] at hb'; cases hb'
      · right; rw [← e2, ← e1]; exact hb'.symm
    · have := e1 b hb'; omega

/-- Where a row lies that was appended to twice. -/
theorem own_two {w W1 W2 : World} {ho co1 co2 : Option Addr} (h1 : ownB co1 = ownB ho ∨ ownB co1 = some W1.heap.size) (h2 : ownB co2 = ownB co1 ∨ ownB co2 = some W2.heap.size) (s1 : w.heap.size ≤ W1.heap.size) (s2 : w.heap.size ≤ W2.heap.size) : ownB co2 = ownB ho ∨ ∀ b, ownB co2 = some b → w.heap.size ≤ b := by
  rcases h2 with e2 | e2
  · rcases h1 with e1 | e1
    · exact .inl (e2.trans e1)
    · right; intro b hb; rw [e2, e1] at hb; cases hb; exact s1
  · right; intro b hb; rw [e2] at hb; cases hb; exact s2
theorem own_one {w W1 : World} {ho ho0 ho1 co1 : Option Addr} (h1 : ownB co1 = ownB ho ∨ ownB co1 = some W1.heap.size) (hh : ho = ho0 ∨ ho = ho1) (s1 : w.heap.size ≤ W1.heap.size) : ownB co1 = ownB ho0 ∨ ownB co1 = ownB ho1 ∨ ∀ b, ownB co1 = some b → w.heap.size ≤ b := by
  rcases h1 with e1 | e1
  · rcases hh with rfl | rfl
    · exact .inl e1
    · exact .inr (.inl e1)
  · right; right; intro b hb; rw [e1] at hb; cases hb; exact s1

def zz : List Int := [0, 0]
/-- Two zeros, just laid. -/
theorem lit_ft (e : TypeId) (w : World) : Ft e (w.alloc (.cells #[.int .i64 0, .int .i64 0] e)) w.heap.size (some ⟨w.heap.size, 0, none⟩) 2 2 zz := ft_new e w [0, 0] (by simp) (by decide)
theorem lit_sl (a : Addr) : Sl (some a) 2 2 := ⟨fun e => (by cases e), Nat.le_refl _, by omega⟩

/-- What the hand's first row is behind its two appends. -/
structure A0 (e : TypeId) (w W : World) (B : Nat) (ho : Option Addr) (n : Nat) (zs : List Int) (g c : Nat) : Prop where
  f : Ft e W B (some ⟨g, 0, none⟩) (n + 2) c (zs ++ zz)
  at' : ho = some ⟨g, 0, none⟩ ∨ w.heap.size ≤ g
theorem a0_of {e : TypeId} {w W : World} {B : Nat} {ho co : Option Addr} {n c : Nat} {zs : List Int} (hn : e = e) (f : Ft e W B co (n + 2) c (zs ++ zz)) (h : ownB co = ownB ho ∨ ∀ b, ownB co = some b → w.heap.size ≤ b) (hr : ho = none ∨ ∃ g, ho = some ⟨g, 0, none⟩) : ∃ g, co = some ⟨g, 0, none⟩ ∧ A0 e w W B ho n zs g c := by
  obtain ⟨g, rfl, _, _⟩ := f.form (by omega)
  refine ⟨g, rfl, f, ?_⟩
  rcases h with h | h
  · rcases hr with rfl | ⟨g', rfl⟩
    · cases h
    · cases h; exact .inl rfl
  · exact .inr (h g rfl)
theorem Rw.shape {e : TypeId} {W : World} {B : Nat} {go : Option Addr} {n : Nat} (h : Rw e W B go n) : go = none ∨ ∃ g, go = some ⟨g, 0, none⟩ := by
  rcases h.is with ⟨e, _⟩ | ⟨g, e, _⟩
  · exact .inl e
  · exact .inr ⟨g, e⟩

/-- The marks behind lengths, and behind atoms, as 64 bits hold them. -/
def mk7 (i : Nat) : Int := wrap64 (-70000 - (i : Int))
def mk8 (i : Nat) : Int := wrap64 (-80000 - (i : Int))
/-- The numbers of a list with marks behind them. -/
def mrk (f : Nat → Int) (zs : List Int) (n : Nat) (k : Nat) : Int := if k < n then nth zs k else f k

theorem A0.pr {e : TypeId} {w W : World} {B : Nat} {ho : Option Addr} {n : Nat} {zs : List Int} {g c : Nat} (h : A0 e w W B ho n zs g c) (hl : zs.length = n) (f : Nat → Int) : Pr e W g c n (mrk f zs n) ∧ n + 2 ≤ c ∧ c ≤ 9223372036854775807 ∧ B ≤ g := by
  obtain ⟨cur, c1, c2, c3, c4, c5⟩ := h.f.rowH
  refine ⟨⟨⟨cur, c1, c2, fun k hk => ?_⟩, c3⟩, c4, c3, (h.f.at g 0 rfl).1⟩
  rw [c5 k (by omega)]
  unfold mrk; rw [if_pos hk]
  have e : nth (zs ++ zz) k = nth zs k := by unfold nth; simp [List.getElem?_append, hl, hk]
  rw [e]

theorem La.row {w W W' : World} {B hb p : Nat} {so : Option Addr} {sn sc : Nat} {ao : Option Addr} {an ac : Nat} {sh at' : List Int} {go0 go1 ho0 : Option Addr} {m0 : Nat} {ho1 : Option Addr} {m1 : Nat}
    (h : La w W B hb p so sn sc ao an ac sh at' go0 go1 ho0 m0 ho1 m1) {e : TypeId} (he : e ≠ 28 ∧ e ≠ 30) {g c m : Nat} {f : Nat → Int} (P : Pr e W g c m f) (hB : B ≤ g) (hat : go0 = some ⟨g, 0, none⟩ ∨ go1 = some ⟨g, 0, none⟩ ∨ w.heap.size ≤ g)
    (hg : W.grownBy W' (some g)) : La w W' B hb p so sn sc ao an ac sh at' go0 go1 ho0 m0 ho1 m1 := by
  obtain ⟨cur, hc, _⟩ := P.blk
  refine h.grow hg (fun b hb' => ?_)
  cases hb'
  refine ⟨hB, fun e1 => ?_, fun e1 => ?_, fun e1 => ?_, fun hlt => ?_⟩
  · subst e1; exact he.1 (kinds hc h.hbox)
  · subst e1; exact he.2 (kinds hc h.abox)
  · subst e1; exact he.2 (kinds hc h.rbox)
  · rcases hat with e1 | e1 | e1
    · left; rw [e1]; rfl
    · right; rw [e1]; rfl
    · omega

/-- A hand that was filled: its box, and both rows with marks in all the room behind. -/
structure Ld (w W : World) (B hb : Nat) (go0 go1 : Option Addr) (sn an : Nat) (sh at' : List Int) (g0 c0 g1 c1 : Nat) : Prop where
  box : W.heap[hb]? = some (.cells #[.slice (some ⟨g0, 0, none⟩) c0 c0, .slice (some ⟨g1, 0, none⟩) c1 c1] 28 (0, 0))
  base : B ≤ hb
  p0 : Pr 3 W g0 c0 c0 (mrk mk7 sh sn)
  p1 : Pr 2 W g1 c1 c1 (mrk mk8 at' an)
  b0 : B ≤ g0
  b1 : B ≤ g1
  l0 : sn + 2 ≤ c0
  l1 : an + 2 ≤ c1
  a0 : go0 = some ⟨g0, 0, none⟩ ∨ w.heap.size ≤ g0
  a1 : go1 = some ⟨g1, 0, none⟩ ∨ w.heap.size ≤ g1

theorem rows_ne {W : World} {g g' c c' m m' : Nat} {f f' : Nat → Int} (P : Pr 3 W g c m f) (Q : Pr 2 W g' c' m' f') : g ≠ g' := by
  rintro rfl
  obtain ⟨cur, h1, _⟩ := P.blk
  obtain ⟨cur', h2, _⟩ := Q.blk
  exact absurd (kinds h1 h2) (by decide)

/-- A hand that was filled, and the two boxes of the call that fills it. -/
structure Le (w W : World) (B hb p : Nat) (so : Option Addr) (sn sc : Nat) (ao : Option Addr) (an ac : Nat) (sh at' : List Int) (go0 go1 : Option Addr) (g0 c0 g1 c1 : Nat) : Prop where
  ld : Ld w W B hb go0 go1 sn an sh at' g0 c0 g1 c1
  abox : W.heap[p]? = some (.cells #[.slice so sn sc, .slice ao an ac] 30 (0, 0))
  rbox : ∃ x y, W.heap[p + 1]? = some (.cells #[x, y] 30 (0, 0))
  hp : w.heap.size ≤ p
  kp : Kp w W (fun b => b = hb ∨ some b = ownB go0 ∨ some b = ownB go1)

section

variable {w W W' : World} {B hb p : Nat} {so : Option Addr} {sn sc : Nat} {ao : Option Addr} {an ac : Nat} {sh at' : List Int} {go0 go1 ho0 : Option Addr} {m0 : Nat} {ho1 : Option Addr} {m1 : Nat} {g0 c0 g1 c1 : Nat}

theorem Ld.kept (h : Ld w W B hb go0 go1 sn an sh at' g0 c0 g1 c1) {S : Nat → Prop} (k : Kp W W' S) (hS : ∀ j, S j → j ≠ hb ∧ j ≠ g0 ∧ j ≠ g1) : Ld w W' B hb go0 go1 sn an sh at' g0 c0 g1 c1 := by
  have l := (Array.getElem?_eq_some_iff.1 h.box).1
  exact ⟨(k.block hb l (fun s => (hS hb s).1 rfl)).trans h.box, h.base, h.p0.same (k.block g0 h.p0.lt (fun s => (hS g0 s).2.1 rfl)), h.p1.same (k.block g1 h.p1.lt (fun s => (hS g1 s).2.2 rfl)), h.b0, h.b1, h.l0, h.l1, h.a0, h.a1⟩
theorem Le.drew (h : Le w W B hb p so sn sc ao an ac sh at' go0 go1 g0 c0 g1 c1) : Le w W.drew B hb p so sn sc ao an ac sh at' go0 go1 g0 c0 g1 c1 :=
  ⟨h.ld.kept (S := fun _ => False) (Kp.ofBelow (Below.refl _ W).drew) (fun _ e => e.elim), h.abox, h.rbox, h.hp, h.kp.trans (Kp.ofBelow (S := fun _ => False) (Below.refl _ W).drew) (fun _ _ e => e.elim)⟩
theorem Le.set (h : Le w W B hb p so sn sc ao an ac sh at' go0 go1 g0 c0 g1 c1) (u v : Value) : Le w ((W.setCell ⟨p + 1, 0, none⟩ u).setCell ⟨p + 1, 1, none⟩ v) B hb p so sn sc ao an ac sh at' go0 go1 g0 c0 g1 c1 := by
  obtain ⟨x, y, hr⟩ := h.rbox
  have k := set2 W (p + 1) 0 1 u v
  have l := (Array.getElem?_eq_some_iff.1 h.abox).1
  obtain ⟨cu, q0, _⟩ := h.ld.p0.blk
  obtain ⟨cv, q1, _⟩ := h.ld.p1.blk
  refine ⟨h.ld.kept (Kp.of k) (fun j e => ?_), (k.block p l (by simp)).trans h.abox, ⟨u, v, ?_⟩, h.hp, h.kp.trans (Kp.of k) (fun j hj e => by cases e; have := h.hp; omega)⟩
  · cases e
    refine ⟨fun e => ?_, fun e => ?_, fun e => ?_⟩
    · rw [e] at hr; exact absurd (kinds hr h.ld.box) (by decide)
    · rw [e] at hr; exact absurd (kinds hr q0) (by decide)
    · rw [e] at hr; exact absurd (kinds hr q1) (by decide)
  · have h1 := heap_setCell_same W (p + 1) 0 _ 30 u hr
    have h2 := heap_setCell_same _ (p + 1) 1 _ 30 v h1
    simpa using h2
theorem Le.all (h : Le w W B hb p so sn sc ao an ac sh at' go0 go1 g0 c0 g1 c1) : W.cell? ⟨p, 0, none⟩ = some (.slice so sn sc) ∧ W.cell? ⟨p, 1, none⟩ = some (.slice ao an ac) ∧ Le w W B hb p so sn sc ao an ac sh at' go0 go1 g0 c0 g1 c1 := by
  obtain ⟨a, b, _, _⟩ := box2 h.abox
  exact ⟨a, b, h⟩
/-- The rows are laid into the hand's box. -/
theorem La.stored (h : La w W B hb p so sn sc ao an ac sh at' go0 go1 ho0 m0 ho1 m1) (P0 : Pr 3 W g0 c0 c0 (mrk mk7 sh sn)) (P1 : Pr 2 W g1 c1 c1 (mrk mk8 at' an)) (b0 : B ≤ g0) (b1 : B ≤ g1) (l0 : sn + 2 ≤ c0) (l1 : an + 2 ≤ c1) (a0 : go0 = some ⟨g0, 0, none⟩ ∨ w.heap.size ≤ g0) (a1 : go1 = some ⟨g1, 0, none⟩ ∨ w.heap.size ≤ g1) :
    Le w ((W.setCell ⟨hb, 0, none⟩ (.slice (some ⟨g0, 0, none⟩) c0 c0)).setCell ⟨hb, 1, none⟩ (.slice (some ⟨g1, 0, none⟩) c1 c1)) B hb p so sn sc ao an ac sh at' go0 go1 g0 c0 g1 c1 := by
  have k := set2 W hb 0 1 (.slice (some ⟨g0, 0, none⟩) c0 c0) (.slice (some ⟨g1, 0, none⟩) c1 c1)
  have h1 := heap_setCell_same W hb 0 _ 28 (.slice (some ⟨g0, 0, none⟩) c0 c0) h.hbox
  have h2 := heap_setCell_same _ hb 1 _ 28 (.slice (some ⟨g1, 0, none⟩) c1 c1) h1
  obtain ⟨cu, q0, _⟩ := P0.blk
  obtain ⟨cv, q1, _⟩ := P1.blk
  have la := (Array.getElem?_eq_some_iff.1 h.abox).1
  have lr := (Array.getElem?_eq_some_iff.1 h.rbox).1
  refine ⟨⟨by simpa using h2, h.base, P0.kept k (fun e => ?_), P1.kept k (fun e => ?_), b0, b1, l0, l1, a0, a1⟩, (k.block p la (fun e => ?_)).trans h.abox, ⟨_, _, (k.block _ lr (fun e => ?_)).trans h.rbox⟩, by rw [h.pw]; exact Nat.le_refl _, h.kp.trans (Kp.of k) (fun j hj e => by cases e; exact .inl rfl)⟩
  · cases e; exact absurd (kinds q0 h.hbox) (by decide)
  · cases e; exact absurd (kinds q1 h.hbox) (by decide)
  · cases e; exact absurd (kinds h.abox h.hbox) (by decide)
  · have := h.rbox; cases e; exact absurd (kinds this h.hbox) (by decide)
end

/-- Both rows are let go. -/
theorem La.nils {w W : World} {B hb p : Nat} {so : Option Addr} {sn sc : Nat} {ao : Option Addr} {an ac : Nat} {sh at' : List Int} {go0 go1 ho0 : Option Addr} {m0 : Nat} {ho1 : Option Addr} {m1 : Nat} (h : La w W B hb p so sn sc ao an ac sh at' go0 go1 ho0 m0 ho1 m1) :
    La w ((W.setCell ⟨hb, 0, none⟩ (.slice none 0 0)).setCell ⟨hb, 1, none⟩ (.slice none 0 0)) B hb p so sn sc ao an ac sh at' go0 go1 none 0 none 0 := by
  have k := set2 W hb 0 1 (.slice none 0 0) (.slice none 0 0)
  have h1 := heap_setCell_same W hb 0 _ 28 (.slice none 0 0) h.hbox
  have h2 := heap_setCell_same _ hb 1 _ 28 (.slice none 0 0) h1
  have la := (Array.getElem?_eq_some_iff.1 h.abox).1
  have lr := (Array.getElem?_eq_some_iff.1 h.rbox).1
  have hB := h.szB
  have hk := h.kp.size
  have hb' := h.base
  refine ⟨by simpa using h2, h.base, (k.block p la (fun e => ?_)).trans h.abox, (k.block _ lr (fun e => ?_)).trans h.rbox, h.s.low0 h.ls (fun j hj => k.block j (by omega) (fun e => by cases e; omega)) k.size, h.a.low0 h.la (fun j hj => k.block j (by omega) (fun e => by cases e; omega)) k.size, h.ls, h.la, h.kp.trans (Kp.of k) (fun j hj e => by cases e; exact .inl rfl), .inl rfl, .inl rfl, h.szB, h.pw⟩
  · cases e; exact absurd (kinds h.abox h.hbox) (by decide)
  · have := h.rbox; cases e; exact absurd (kinds this h.hbox) (by decide)

end Go.Proofs.Ytpkednlfhdpdhaa
