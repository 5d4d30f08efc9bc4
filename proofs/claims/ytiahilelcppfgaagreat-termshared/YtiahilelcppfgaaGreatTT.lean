
/- Package term: terms whose memory is new; Clone of a list of terms. -/

import Derived.Test.YtiahilelcppfgaaGreatTR

import Derived.Lib.Walk

import Derived.Lib.Strings

import Derived.Lib.BufferWrite

import Derived.Lib.UnsafeStr

import Derived.Lib.Hide

import Derived.Laws.MakeOwn

import Derived.Lib.JoinLaws

namespace Go.Proofs.YtiahilelcppfgaaGreat

open Go.RowKit

set_option linter.unusedVariables false

theorem infoU8 : (Tryz.prog.info? 5).map (fun i => (i.zero, i.size, i.bytes)) = some (some (Value.int IntKind.u8 0), 1, 1) := by kernel_rfl
theorem infoT : (Tryz.prog.info? 31).map (fun i => (i.zero, i.size, i.bytes)) = some (some (Value.agg #[.int .i64 0, .string ⟨#[]⟩, .int .i64 0, .slice none 0 0, .slice none 0 0, .slice none 0 0]), 6, 104) := by kernel_rfl
set_option maxHeartbeats 4000000 in
set_option maxRecDepth 100000 in
theorem litClone_any (s : ByteArray) (w : World) (hlim : s.size ≤ 140737488355328) :
    Calls Tryz.prog 70 #[.string s] w fun e w' => e = .returned (.string s) ∧ Below w.heap.size w w' := by
  by_cases h0 : s.size = 0
  · have hs : s = ⟨#[]⟩ := by
      apply ByteArray.ext
      exact Array.eq_empty_of_size_eq_zero h0
    subst hs
    go_enter Tryz.func70, Tryz.ntmps70
    go_wp2
    go_ret
    exact ⟨rfl, Below.refl _ _⟩
  · obtain ⟨i0, hi, hz0, hz1, hz2⟩ := info_parts infoU8
    have hinfo : (Tryz.prog.info? 5).map (·.size) = some 1 := by rw [hi]; simp [hz1]
    have hco : Tryz.prog.cellsOf 5 = 1 := by simp [Program.cellsOf, hi, hz1]
    obtain ⟨M, hM⟩ : ∃ M, M = madeCells (Value.int .u8 0).cells (((s.size : Nat) : Int).toNat * i0.size) := ⟨_, rfl⟩
    have hMs : M.size = s.size := by rw [hM, size_madeCells, hz1]; simp
    have hmk : ∀ W : World, (Instr.makeSlice 120 (.int .i64 (s.size : Int)) (.int .i64 (s.size : Int))).run Tryz.prog W = .ok (.slice (some ⟨W.heap.size, 0, none⟩) s.size s.size) (W.alloc (.cells M 5)) := fun W => by
      have h := run_make (P := Tryz.prog) W 120 5 i0 (.int .u8 0) Tryz.underlying120 hi hz0 .i64 .i64 (s.size : Int) (s.size : Int) (by omega) (by omega) (by rw [hz2]; omega) (by omega)
      rw [← hM] at h
      simpa using h
    clear hM
    have hcp := Lib.run_copy_row_string (P := Tryz.prog) (w.alloc (.cells M 5)) 120 9 3 5 w.heap.size 0 s.size s.size s M 5 Tryz.underlying120 hinfo (heap_alloc_new w _) (Nat.le_refl _) (by omega)
    obtain ⟨Y, hY⟩ : ∃ Y, Y = (M.toList.take 0 ++ Lib.byteCells s.data.toList ++ M.toList.drop (0 + s.size)).toArray := ⟨_, rfl⟩
    rw [← hY] at hcp
    have hYl : Y.toList = Lib.byteCells s.data.toList := by
      rw [hY, List.toList_toArray, List.take_zero, List.nil_append, List.drop_of_length_le (by rw [Array.length_toList]; omega), List.append_nil]
    have hYs : Y.size = s.size := by rw [← Array.length_toList, hYl, Lib.byteCells_length, ← Lib.size_eq]
    have hgY : ((w.alloc (.cells M 5)).setRow w.heap.size Y).heap[w.heap.size]? = some (.cells Y 5 (0, 0)) := setRow_heap _ _ M _ 5 (0, 0) (heap_alloc_new w _)
    have hne : s.data.toList ≠ [] := fun e => h0 (by rw [Lib.size_eq, e]; rfl)
    have hUS := Lib.run_unsafeString_row (P := Tryz.prog) ((w.alloc (.cells M 5)).setRow w.heap.size Y) 121 3 9 5 Tryz.underlying121 hco w.heap.size Y.size (by unfold World.shape?; rw [hgY]) s.data.toList hne (by rw [← Lib.size_eq]; omega) (by rw [← Lib.size_eq]; omega)
      (fun j x hx => Lib.cells_of_row hgY Y.size j _ (by rw [List.take_of_length_le (by rw [Array.length_toList]; exact Nat.le_refl _), hYl]; simp [Lib.byteCells, hx]))
    rw [← Lib.size_eq] at hUS
    clear hY
    go_enter Tryz.func70, Tryz.ntmps70
    go_wp2
    go_ret
    have hb1 : Below w.heap.size w (w.alloc (.cells M 5)) := (Below.refl _ w).alloc (Nat.le_refl _) _
    have hb2 : Below w.heap.size (w.alloc (.cells M 5)) ((w.alloc (.cells M 5)).setRow w.heap.size Y) := ⟨rfl, rfl, rfl, by simp, fun k hk => setRow_other _ _ _ _ (by omega)⟩
    exact ⟨rfl, Lib.below_freeze (hb1.trans hb2) (p := ⟨w.heap.size, 0, none⟩) (Nat.le_refl _) _⟩
theorem strClone_any (s : ByteArray) (w : World) (hlim : s.size ≤ 140737488355328) :
    Calls Tryz.prog 42 #[.string s] w fun e w' => e = .returned (.string s) ∧ Below w.heap.size w w' := by
  have hc := litClone_any s w hlim
  go_enter Tryz.func42, Tryz.ntmps42
  go_wp2_with (go_at_call 70; (with_reducible refine hc.mono ?_); rintro e w1 ⟨rfl, b1⟩)
  go_ret
  exact ⟨rfl, b1⟩
/-- The cells of a list of terms. -/
theorem Kq.news {d : Nat} {W0 W : World} {ko : Option Addr} {a : Addr} {ks : List (Tr d)} (h : Kq (Tv W0 d) W ko ks) (ha : ko = some a) : ∃ news : List Value, news.length = ks.length * 6 ∧ (∀ j u, news[j]? = some u → W.cell? (a.add j) = some u) ∧ (∀ u ∈ news, u.oneCell' = true) ∧ ∀ i y, ks[i]? = some y → ∃ c0 c1 c2 c3 c4 c5, Tv W0 d y [c0, c1, c2, c3, c4, c5] ∧ news[i * 6]? = some c0 ∧ news[i * 6 + 1]? = some c1 ∧ news[i * 6 + 2]? = some c2 ∧ news[i * 6 + 3]? = some c3 ∧ news[i * 6 + 4]? = some c4 ∧ news[i * 6 + 5]? = some c5 := by
  rcases Nat.eq_zero_or_pos ks.length with h0 | h0
  · have : ks = [] := List.eq_nil_of_length_eq_zero h0
    subst this
    exact ⟨[], rfl, fun j u e => by simp at e, fun u hu => by simp at hu, fun i y e => by simp at e⟩
  · obtain ⟨b, off, e, hl, hc⟩ := h.cells h0
    rw [ha] at e
    injection e with e
    subst e
    have key : ∀ j, j < ks.length * 6 → ∃ u, W.cell? ⟨b, off + j, none⟩ = some u ∧ u.oneCell' = true := fun j hj => by
      have hi : j / 6 < ks.length := by omega
      obtain ⟨c0, c1, c2, c3, c4, c5, hv, q0, q1, q2, q3, q4, q5⟩ := hc (j / 6) ks[j / 6] (by simp [hi])
      obtain ⟨k1, t1, n1, so, sn, sc, ao, an, ac, uo, un, uc, ev⟩ := hv.form
      injection ev with ev0 ev
      injection ev with ev1 ev
      injection ev with ev2 ev
      injection ev with ev3 ev
      injection ev with ev4 ev
      injection ev with ev5 ev
      subst ev0 ev1 ev2 ev3 ev4 ev5
      have hr : j % 6 = 0 ∨ j % 6 = 1 ∨ j % 6 = 2 ∨ j % 6 = 3 ∨ j % 6 = 4 ∨ j % 6 = 5 := by omega
      rcases hr with r | r | r | r | r | r
      · exact ⟨_, by rw [show off + j = off + j / 6 * 6 by omega]; exact q0, rfl⟩
      · exact ⟨_, by rw [show off + j = off + j / 6 * 6 + 1 by omega]; exact q1, rfl⟩
      · exact ⟨_, by rw [show off + j = off + j / 6 * 6 + 2 by omega]; exact q2, rfl⟩
      · exact ⟨_, by rw [show off + j = off + j / 6 * 6 + 3 by omega]; exact q3, rfl⟩
      · exact ⟨_, by rw [show off + j = off + j / 6 * 6 + 4 by omega]; exact q4, rfl⟩
      · exact ⟨_, by rw [show off + j = off + j / 6 * 6 + 5 by omega]; exact q5, rfl⟩
    obtain ⟨g, hg⟩ : ∃ g : Nat → Value, g = fun j => (W.cell? ⟨b, off + j, none⟩).getD undef := ⟨_, rfl⟩
    have gk : ∀ j u, W.cell? ⟨b, off + j, none⟩ = some u → g j = u := fun j u e => by rw [hg]; simp [e]
    have at' : ∀ j, j < ks.length * 6 → ((List.range (ks.length * 6)).map g)[j]? = some (g j) := fun j hj => by simp [hj]
    have le : ∀ i y, ks[i]? = some y → i < ks.length := fun i y e => (List.getElem?_eq_some_iff.1 e).1
    refine ⟨(List.range (ks.length * 6)).map g, by simp, fun j u hu => ?_, fun u hu => ?_, fun i y hy => ?_⟩
    · have hj : j < ks.length * 6 := by
        have := (List.getElem?_eq_some_iff.1 hu).1
        simpa using this
      rw [at' j hj] at hu
      injection hu with hu
      obtain ⟨v, hv, _⟩ := key j hj
      rw [gk j v hv] at hu
      subst hu
      rw [add_at]
      exact hv
    · obtain ⟨j, hj, rfl⟩ := List.mem_map.1 hu
      obtain ⟨v, hv, ho⟩ := key j (by simpa using hj)
      rw [gk j v hv]; exact ho
    · obtain ⟨c0, c1, c2, c3, c4, c5, hv, q0, q1, q2, q3, q4, q5⟩ := hc i y hy
      have hi := le i y hy
      refine ⟨c0, c1, c2, c3, c4, c5, hv, ?_, ?_, ?_, ?_, ?_, ?_⟩
      · rw [at' _ (by omega), gk _ _ q0]
      · rw [at' _ (by omega), gk _ _ q1]
      · rw [at' _ (by omega), gk _ _ q2]
      · rw [at' _ (by omega), gk _ _ q3]
      · rw [at' _ (by omega), gk _ _ q4]
      · rw [at' _ (by omega), gk _ _ q5]
end Go.Proofs.YtiahilelcppfgaaGreat

namespace Go.Proofs.YtiahilelcppfgaaGreat

open Go.RowKit

set_option linter.unusedVariables false

/-- From block B on nothing has changed. -/
structure Up (B : Nat) (W V : World) : Prop where
  size : W.heap.size ≤ V.heap.size
  block : ∀ k, B ≤ k → k < W.heap.size → V.heap[k]? = W.heap[k]?
theorem Up.of_below {B C : Nat} {W V : World} (h : Below C W V) (hC : W.heap.size ≤ C) : Up B W V := ⟨h.size, fun k _ hk => h.block k (Nat.lt_of_lt_of_le hk hC)⟩
theorem Up.mono {B C : Nat} {W V : World} (h : Up B W V) (hC : B ≤ C) : Up C W V := ⟨h.size, fun k hk => h.block k (Nat.le_trans hC hk)⟩
theorem Up.trans {B : Nat} {W V U : World} (h : Up B W V) (k : Up B V U) : Up B W U := ⟨Nat.le_trans h.size k.size, fun j h1 h2 => (k.block j h1 (Nat.lt_of_lt_of_le h2 h.size)).trans (h.block j h1 h2)⟩
theorem Up.cell {B : Nat} {W V : World} (u : Up B W V) {b o : Nat} (hb : B ≤ b) (hl : b < W.heap.size) : V.cell? ⟨b, o, none⟩ = W.cell? ⟨b, o, none⟩ := by
  simp only [World.cell?]
  rw [u.block b hb hl]
theorem Rd.up {B : Nat} {W V : World} {ao : Option Addr} {n : Nat} {zs : List Int} (h : Rd W ao n zs) (u : Up B W V) (hb : ∀ a, ao = some a → B ≤ a.block) : Rd V ao n zs := by
  refine ⟨h.len, h.room, h.num, fun h0 => ?_⟩
  obtain ⟨b, off, e, hl, hc⟩ := h.cells h0
  refine ⟨b, off, e, Nat.lt_of_lt_of_le hl u.size, fun k hk => ?_⟩
  rw [u.cell (by have := hb _ e; exact this) hl]
  exact hc k hk
/-- A term that is read, its lists all in blocks from B on. -/
def Tw (B : Nat) (W : World) : (d : Nat) → Tr d → List Value → Prop
  | 0, _, _ => False
  | d + 1, x, v => Nv (Tw B W d) W x.nd x.ks v ∧ ∀ a n c, Value.slice (some a) n c ∈ v → B ≤ a.block
theorem Kq.mp {α : Type} {P Q : α → List Value → Prop} {W : World} {ko : Option Addr} {ks : List α} (h : Kq P W ko ks) (hP : ∀ y v, P y v → Q y v) : Kq Q W ko ks := by
  refine ⟨h.room, fun h0 => ?_⟩
  obtain ⟨b, off, e, hl, hc⟩ := h.cells h0
  refine ⟨b, off, e, hl, fun i y hy => ?_⟩
  obtain ⟨c0, c1, c2, c3, c4, c5, hp, q⟩ := hc i y hy
  exact ⟨c0, c1, c2, c3, c4, c5, hP _ _ hp, q⟩
theorem Nv.mp {α : Type} {P Q : α → List Value → Prop} {W : World} {x : Nd} {ks : List α} {v : List Value} (h : Nv P W x ks v) (hP : ∀ y v, P y v → Q y v) : Nv Q W x ks v := by
  obtain ⟨⟨so, sn, sc, ao, an, ac, ko, kc, e, h1, h2, h3, h4, h5, h6⟩, hk, hn, ht⟩ := h
  exact ⟨⟨so, sn, sc, ao, an, ac, ko, kc, e, h1, h2, h3, h4, h5.mp hP, h6⟩, hk, hn, ht⟩
theorem Tw.tv {B : Nat} {W : World} : ∀ {d : Nat} {x : Tr d} {v : List Value}, Tw B W d x v → Tv W d x v
  | 0, _, _, h => h
  | d + 1, x, v, h => Nv.mp h.1 fun y v h => Tw.tv h
theorem Tw.mono {B C : Nat} {W : World} (hC : C ≤ B) : ∀ {d : Nat} {x : Tr d} {v : List Value}, Tw B W d x v → Tw C W d x v
  | 0, _, _, h => h
  | d + 1, x, v, h => ⟨Nv.mp h.1 fun y v h => Tw.mono hC h, fun a n c ha => Nat.le_trans hC (h.2 a n c ha)⟩
theorem Tw.up {B : Nat} {W V : World} (u : Up B W V) : ∀ {d : Nat} {x : Tr d} {v : List Value}, Tw B W d x v → Tw B V d x v
  | 0, _, _, h => h
  | d + 1, x, v, h => by
    obtain ⟨⟨⟨so, sn, sc, ao, an, ac, ko, kc, e, h1, h2, h3, h4, h5, h6⟩, hk, hn, ht⟩, hb⟩ := h
    refine ⟨⟨⟨so, sn, sc, ao, an, ac, ko, kc, e, h1.up u fun a ea => hb a sn sc (by rw [e, ea]; simp), h2, h3.up u fun a ea => hb a an ac (by rw [e, ea]; simp), h4, ⟨h5.room, fun h0 => ?_⟩, h6⟩, hk, hn, ht⟩, hb⟩
    obtain ⟨b, off, eo, hl, hc⟩ := h5.cells h0
    have hB : B ≤ b := hb ⟨b, off, none⟩ x.ks.length kc (by rw [e, eo]; simp)
    refine ⟨b, off, eo, Nat.lt_of_lt_of_le hl u.size, fun i y hy => ?_⟩
    obtain ⟨c0, c1, c2, c3, c4, c5, hp, q0, q1, q2, q3, q4, q5⟩ := hc i y hy
    exact ⟨c0, c1, c2, c3, c4, c5, Tw.up u hp, (u.cell hB hl).trans q0, (u.cell hB hl).trans q1, (u.cell hB hl).trans q2, (u.cell hB hl).trans q3, (u.cell hB hl).trans q4, (u.cell hB hl).trans q5⟩
theorem nilT (w : World) (a : Option Addr) (l c : Nat) : (binOp .eql 29 (.slice a l c) (.slice none 0 0)).run Tryz.prog w = .ok (.bool a.isNone) w := by
  have h : (Op.equal 29 (.slice a l c) (.slice none 0 0)).run Tryz.prog w = .ok a.isNone w := by
    show (Op.equalIn (9999 + 1) 29 (.slice a l c) (.slice none 0 0)).run Tryz.prog w = .ok a.isNone w
    rw [Op.equalIn]
    cases a <;> simp [Sem.run_bind, run_underlying Tryz.underlying29, Result.andThen]
  simp [binOp, h]
/-- Clone of a list of terms. -/
theorem cloneT_any {d : Nat} (ks : List (Tr d)) (ko : Option Addr) (kc : Nat) (W0 w : World) (h : Kq (Tv W0 d) w ko ks) (hs : Sl ko ks.length kc) :
    Calls Tryz.prog 65 #[.slice ko ks.length kc] w fun e w' => ∃ o' c' news, e = .returned (.slice o' ks.length c') ∧ Below w.heap.size w w' ∧ w'.ownsRow w.heap.size 31 6 (.slice o' ks.length c') ks.length news ∧ ∀ i y, ks[i]? = some y → ∃ c0 c1 c2 c3 c4 c5, Tv W0 d y [c0, c1, c2, c3, c4, c5] ∧ news[i * 6]? = some c0 ∧ news[i * 6 + 1]? = some c1 ∧ news[i * 6 + 2]? = some c2 ∧ news[i * 6 + 3]? = some c3 ∧ news[i * 6 + 4]? = some c4 ∧ news[i * 6 + 5]? = some c5 := by
  have hq := fun W a n c => nilT W a n c
  have hroom := h.room
  cases hko : ko with
  | none =>
    subst hko
    obtain ⟨h0, rfl⟩ := hs.nil rfl
    have : ks = [] := List.eq_nil_of_length_eq_zero h0
    subst this
    rw [show ([] : List (Tr d)).length = 0 from rfl]
    go_enter Tryz.func65, Tryz.ntmps65
    go_wp2
    go_ret
    exact ⟨none, 0, [], rfl, Below.refl _ _, World.ownsRow_nil _ _ _ _, fun i y e => by simp at e⟩
  | some a =>
    obtain ⟨news, hl, hn, h1, hy⟩ := h.news hko
    subst hko
    have hb := box_below w (.cells #[] 31)
    have hO : (w.alloc (.cells #[] 31)).ownsRow w.heap.size 31 6 (.slice (some ⟨w.heap.size, 0, none⟩) 0 0) 0 [] := by
      refine ⟨rfl, .inr ⟨w.heap.size, 0, #[], rfl, Nat.le_refl _, allocNew _ _, Nat.le_refl _, by decide, rfl, rfl⟩⟩
    obtain ⟨i0, hi, hz0, hz1, hz2⟩ := info_parts infoT
    obtain ⟨v', w', hrun, hown, hgrow, hnil⟩ := run_append_own (P := Tryz.prog) (w.alloc (.cells #[] 31)) w.heap.size 29 29 31 i0 _ 6 104 Tryz.underlying29 hi hz0 hz1 hz2 rfl (by decide) _ 0 _ hO a ks.length kc news hl
      (fun j u hu => by
        have := hn j u hu
        exact (hb.cell (p := a.add j) (World.block_lt_of_cell? w _ this)).trans this) h1 (by unfold maxLen; omega) (by omega) hb.size
    rw [Nat.zero_add, List.nil_append] at hown
    have hv : ∃ o' c', v' = .slice o' ks.length c' := by
      rcases hown.2 with ⟨rfl, h0⟩ | ⟨g, cap, cur, rfl, _⟩
      · exact ⟨none, 0, by rw [h0]⟩
      · exact ⟨_, _, rfl⟩
    obtain ⟨o', c', rfl⟩ := hv
    have bw : Below w.heap.size w w' := hb.grown hgrow hb.size (fun q e => by simp [Value.ownBlock] at e; omega)
    generalize ks.length = n at *
    clear h hn h1 hl hnil
    go_enter Tryz.func65, Tryz.ntmps65
    go_wp2_with (at_builtin; refine wpList_append_run rfl _ _ _ rfl _ (by exact hrun) ?_)
    go_ret
    exact ⟨o', c', news, rfl, bw, hown, hy⟩
end Go.Proofs.YtiahilelcppfgaaGreat
