
/- Lists of a call's own, of either kind of number; copies of lists by package slices. -/

import Derived.Test.YtppcfpiihkaopaaGreatDoorA2

import Derived.Laws.AppendOwnNone

namespace Go.Proofs.YtppcfpiihkaopaaGreatDoor

open Go.RowKit

set_option linter.unusedVariables false

/-- Slices of type s hold numbers of type e, each one cell. -/
structure Ty (s e : TypeId) : Prop where
  und : Tryz.prog.underlying s = some (.slice e)
  info : (Tryz.prog.info? e).map (fun i => (i.zero, i.size, i.bytes)) = some (some (.int .i64 0), 1, 8)
theorem tyI : Ty 25 3 := ⟨by kernel_rfl, by kernel_rfl⟩
theorem tyL : Ty 28 2 := ⟨by kernel_rfl, by kernel_rfl⟩

/-- Is a slice nil? -/
theorem nilS {s e : TypeId} (ty : Ty s e) (w : World) (a : Option Addr) (l c : Nat) : (binOp .eql s (.slice a l c) (.slice none 0 0)).run Tryz.prog w = .ok (.bool a.isNone) w := by
  have h : (Op.equal s (.slice a l c) (.slice none 0 0)).run Tryz.prog w = .ok a.isNone w := by
    show (Op.equalIn (9999 + 1) s (.slice a l c) (.slice none 0 0)).run Tryz.prog w = .ok a.isNone w
    rw [Op.equalIn]
    cases a <;> simp [Sem.run_bind, run_underlying ty.und, Result.andThen]
  simp [binOp, h]

/-- A slice of a call's own. -/
structure Ft (e : TypeId) (w : World) (B : Nat) (ao : Option Addr) (n cap : Nat) (zs : List Int) : Prop where
  rd : Rd w ao n zs
  own : w.ownsRow B e 1 (.slice ao n cap) n (zs.map (Value.int .i64))

theorem Ft.mk' {e : TypeId} {w : World} {B : Nat} {v : Value} {n : Nat} {zs : List Int} (hl : zs.length = n) (hr : n * 8 ≤ 140737488351232) (hn : ∀ k, k < n → -9223372036854775808 ≤ nth zs k ∧ nth zs k ≤ 9223372036854775807)
    (h : w.ownsRow B e 1 v n (zs.map (Value.int .i64))) : ∃ ao cap, v = .slice ao n cap ∧ Ft e w B ao n cap zs := by
  have h' := h
  rcases h.2 with ⟨rfl, h0⟩ | ⟨g, cap, cur, rfl, hb, hg, hnc, hcm, hcs, ht⟩
  · subst h0
    exact ⟨none, 0, rfl, ⟨hl, hr, hn, fun h => by omega⟩, h⟩
  · refine ⟨_, cap, rfl, ⟨hl, hr, hn, fun _ => ⟨g, 0, rfl, (Array.getElem?_eq_some_iff.1 hg).1, fun k hk => ?_⟩⟩, h⟩
    have := h'.cells (g := g) rfl k _ (nth_map (by omega))
    have e : (⟨g, 0, none⟩ : Addr).add k = ⟨g, 0 + k, none⟩ := by cases k <;> simp [Addr.add]
    rwa [e] at this
theorem Ft.nil (e : TypeId) (w : World) (B : Nat) : Ft e w B none 0 0 [] := ⟨Rd.nil w, World.ownsRow_nil _ _ _ _⟩
theorem Ft.mono {e : TypeId} {w : World} {B B' : Nat} {ao : Option Addr} {n cap : Nat} {zs : List Int} (h : Ft e w B ao n cap zs) (hb : B' ≤ B) : Ft e w B' ao n cap zs := by
  refine ⟨h.rd, h.own.1, ?_⟩
  rcases h.own.2 with h0 | ⟨g, c, cur, e, hB, r⟩
  · exact .inl h0
  · exact .inr ⟨g, c, cur, e, Nat.le_trans hb hB, r⟩
theorem Ft.below {e : TypeId} {B B' : Nat} {w w' : World} {ao : Option Addr} {n cap : Nat} {zs : List Int} (h : Ft e w B ao n cap zs) (hb : Below B' w w') (hB : w.heap.size ≤ B') : Ft e w' B ao n cap zs := by
  refine ⟨h.rd.below hb hB, h.own.1, ?_⟩
  rcases h.own.2 with h0 | ⟨g, c, cur, e, hB2, hg, r⟩
  · exact .inl h0
  · exact .inr ⟨g, c, cur, e, hB2, by rw [hb.block g (Nat.lt_of_lt_of_le (Array.getElem?_eq_some_iff.1 hg).1 hB)]; exact hg, r⟩
theorem Ft.sl {e : TypeId} {w : World} {B : Nat} {ao : Option Addr} {n cap : Nat} {zs : List Int} (h : Ft e w B ao n cap zs) : Sl ao n cap := by
  rcases h.own.2 with ⟨e1, h0⟩ | ⟨g, c, cur, e1, hB2, hg, hnc, hcm, r⟩
  · cases e1; exact ⟨fun _ => ⟨rfl, rfl⟩, Nat.le_refl _, by omega⟩
  · cases e1; exact ⟨fun e => (by cases e), hnc, by unfold maxLen at hcm; omega⟩

theorem Rd.keep1 {w w' : World} {row : Option Nat} {ao : Option Addr} {n : Nat} {zs : List Int} (h : Rd w ao n zs) (hg : w.grownBy w' row) (hne : ∀ b off, ao = some ⟨b, off, none⟩ → some b ≠ row) : Rd w' ao n zs := by
  refine ⟨h.len, h.room, h.num, fun h0 => ?_⟩
  obtain ⟨b, off, e, hl, hc⟩ := h.cells h0
  exact ⟨b, off, e, Nat.lt_of_lt_of_le hl hg.size, fun k hk => hg.cell (hc k hk) (hne b off e)⟩
theorem Ft.keep1 {e : TypeId} {w w' : World} {B : Nat} {row : Option Nat} {ao : Option Addr} {n cap : Nat} {zs : List Int} (h : Ft e w B ao n cap zs) (hg : w.grownBy w' row) (hne : ∀ b off, ao = some ⟨b, off, none⟩ → some b ≠ row) : Ft e w' B ao n cap zs := by
  refine ⟨h.rd.keep1 hg hne, h.own.1, ?_⟩
  rcases h.own.2 with h0 | ⟨g, c, cur, e, hB2, hg2, r⟩
  · exact .inl h0
  · exact .inr ⟨g, c, cur, e, hB2, by rw [hg.block g (Array.getElem?_eq_some_iff.1 hg2).1 (by cases e; exact hne g 0 rfl)]; exact hg2, r⟩
/-- Where a row of one's own lies. -/
theorem Ft.at {e : TypeId} {w : World} {B : Nat} {ao : Option Addr} {n cap : Nat} {zs : List Int} (h : Ft e w B ao n cap zs) : ∀ b off, ao = some ⟨b, off, none⟩ → B ≤ b ∧ b < w.heap.size := by
  rintro b off rfl
  rcases h.own.2 with ⟨e, _⟩ | ⟨g, c, cur, e, hB2, hg2, r⟩
  · cases e
  · cases e; exact ⟨hB2, (Array.getElem?_eq_some_iff.1 hg2).1⟩

/-- A box of two cells, and both written. -/
theorem box2 {W : World} {g : Nat} {x y : Value} {t : TypeId} (h : W.heap[g]? = some (.cells #[x, y] t (0, 0))) :
    W.cell? ⟨g, 0, none⟩ = some x ∧ W.cell? ⟨g, 1, none⟩ = some y ∧ W.frozen? ⟨g, 0, none⟩ = false ∧ W.frozen? ⟨g, 1, none⟩ = false :=
  ⟨(cell_of_row W g 0 _ t (0, 0) h).trans rfl, (cell_of_row W g 1 _ t (0, 0) h).trans rfl, frozen_of_row W g 0 _ t h, frozen_of_row W g 1 _ t h⟩
theorem set1 (W : World) (b o : Nat) (v : Value) : W.grownBy (W.setCell ⟨b, o, none⟩ v) (some b) :=
  ⟨rfl, rfl, rfl, by simp, fun k _ hk => heap_setCell_other W ⟨b, o, none⟩ k _ (fun e => hk (by simp [e]))⟩
theorem set2 (W : World) (b o o' : Nat) (v v' : Value) : W.grownBy ((W.setCell ⟨b, o, none⟩ v).setCell ⟨b, o', none⟩ v') (some b) :=
  have h := set1 W b o v
  have k := set1 (W.setCell ⟨b, o, none⟩ v) b o' v'
  ⟨k.os.trans h.os, k.tape.trans h.tape, k.output.trans h.output, Nat.le_trans h.size k.size, fun j hj hne => (k.block j (Nat.lt_of_lt_of_le hj h.size) hne).trans (h.block j hj hne)⟩
/-- What is written in a box of the call's own changes nothing that was there. -/
theorem below_set2 {a W : World} {B b : Nat} (o o' : Nat) (v v' : Value) (h : Below B a W) (hb : B ≤ b) (hs : B ≤ a.heap.size) : Below B a ((W.setCell ⟨b, o, none⟩ v).setCell ⟨b, o', none⟩ v') :=
  have k := set2 W b o o' v v'
  ⟨k.os.trans h.os, k.tape.trans h.tape, k.output.trans h.output, Nat.le_trans h.size k.size, fun j hj => (k.block j (Nat.lt_of_lt_of_le (Nat.lt_of_lt_of_le hj hs) h.size) (fun e => by cases e; omega)).trans (h.block j hj)⟩

/-- A row just laid, of as many as it has room for. -/
theorem ft_new (e : TypeId) (w : World) (zs : List Int) (hl : zs.length ≤ 100) (hn : ∀ k, k < zs.length → -9223372036854775808 ≤ nth zs k ∧ nth zs k ≤ 9223372036854775807) :
    Ft e (w.alloc (.cells (zs.map (Value.int .i64)).toArray e)) w.heap.size (some ⟨w.heap.size, 0, none⟩) zs.length zs.length zs := by
  have hb := allocNew w (.cells (zs.map (Value.int .i64)).toArray e)
  refine ⟨⟨rfl, by omega, hn, fun _ => ⟨w.heap.size, 0, rfl, by simp, fun k hk => ?_⟩⟩, by simp, .inr ⟨w.heap.size, zs.length, _, rfl, Nat.le_refl _, hb, Nat.le_refl _, by unfold maxLen; omega, by simp, ?_⟩⟩
  · have := cell_of_row (w.alloc (.cells (zs.map (Value.int .i64)).toArray e)) w.heap.size (0 + k) _ e (0, 0) hb
    rw [this, Nat.zero_add]
    simpa using nth_map hk
  · simp [← List.map_take]

theorem run_joinT {s e : TypeId} (ty : Ty s e) {w : World} (tt : TypeId) (B : Nat) (ao bo : Option Addr) (n cap m cap' : Nat) (zs ys : List Int) (h : Ft e w B ao n cap zs) (g : Rd w bo m ys) (gs : Sl bo m cap') (hr : (n + m) * 8 ≤ 140737488351232) (hB : B ≤ w.heap.size) :
    ∃ co c w', (Builtin.append_ #[s, s] tt #[.slice ao n cap, .slice bo m cap']).run Tryz.prog w = .ok (.slice co (n + m) c) w' ∧ Ft e w' B co (n + m) c (zs ++ ys) ∧ w.grownBy w' (Value.slice ao n cap).ownBlock := by
  obtain ⟨i0, hi, hz0, hz1, hz2⟩ := info_parts ty.info
  have hl := h.rd.len
  have gl := g.len
  have hnum : ∀ k, k < n + m → -9223372036854775808 ≤ nth (zs ++ ys) k ∧ nth (zs ++ ys) k ≤ 9223372036854775807 := by
    intro k hk
    by_cases c : k < n
    · have e : nth (zs ++ ys) k = nth zs k := by unfold nth; simp [List.getElem?_append, hl, c]
      rw [e]; exact h.rd.num k c
    · have e : nth (zs ++ ys) k = nth ys (k - n) := by unfold nth; simp [List.getElem?_append, hl, c]
      rw [e]; exact g.num _ (by omega)
  have fin : ∀ v w', w'.ownsRow B e 1 v (n + m) (zs.map (Value.int .i64) ++ ys.map (Value.int .i64)) → ∃ co c, v = .slice co (n + m) c ∧ Ft e w' B co (n + m) c (zs ++ ys) := fun v w' ho =>
    Ft.mk' (by simp [hl, gl]) hr hnum (by rw [List.map_append]; exact ho)
  cases bo with
  | none =>
    obtain ⟨rfl, rfl⟩ := gs.nil rfl
    have hy : ys = [] := List.eq_nil_of_length_eq_zero gl
    subst hy
    have hrun := run_append_owned_none (P := Tryz.prog) (w := w) B s tt e i0 1 ty.und hi _ n _ h.own
    refine ⟨ao, cap, w, hrun, ?_, World.grownBy.refl _ _⟩
    rw [List.append_nil]; exact h
  | some a =>
    have hnews : ∀ j u, (ys.map (Value.int .i64))[j]? = some u → w.cell? (a.add j) = some u := by
      intro j u hu
      have hj : j < m := by
        have := (List.getElem?_eq_some_iff.1 hu).1
        simpa [gl] using this
      obtain ⟨b, off, e, _, hc⟩ := g.cells (by omega)
      cases e
      exact Rd.news gl hc j u hu
    obtain ⟨v', w', hrun, hown, hgrow, _⟩ := run_append_own (P := Tryz.prog) w B s tt e i0 (.int .i64 0) 1 8 ty.und hi hz0 hz1 hz2 rfl (by decide) _ n _ h.own a m cap' (ys.map (Value.int .i64)) (by rw [List.length_map, gl, Nat.mul_one]) hnews (ints_one ys) (by unfold maxLen; omega) (by omega) hB
    obtain ⟨co, c, rfl, hf⟩ := fin _ _ hown
    exact ⟨co, c, w', hrun, hf, hgrow⟩

theorem wpList_joinT {s e : TypeId} (ty : Ty s e) {w : World} {ops : Array Oper} {rest : List Oper} {o : Oper} {a : Act} {Q : Exit → Act → World → Prop} (hgd : o.guard = none) (p x : Operand)
    (ho : o.op = .call { callee := .builtin .append, args := #[p, x], argTypes := #[s, s] }) (B : Nat) (ao bo : Option Addr) (n cap m cap' : Nat) (zs ys : List Int)
    (hs : a.eval p = .slice ao n cap) (hx : a.eval x = .slice bo m cap') (h : Ft e w B ao n cap zs) (g : Rd w bo m ys) (gs : Sl bo m cap') (hr : (n + m) * 8 ≤ 140737488351232) (hB : B ≤ w.heap.size)
    (hK : ∀ co c w', Ft e w' B co (n + m) c (zs ++ ys) → Below B w w' → wpList Tryz.prog ops Q rest (a.put o.dst (.slice co (n + m) c)) w') : wpList Tryz.prog ops Q (o :: rest) a w := by
  obtain ⟨co, c, w', hrun, hf, hg⟩ := run_joinT ty o.type B ao bo n cap m cap' zs ys h g gs hr hB
  refine wpList_append_run hgd p x s ho _ (by rw [hs, hx]; exact hrun) (hK _ _ _ hf ((Below.refl _ _).grown hg hB ?_))
  intro k e
  exact (h.own.lt k e).1

set_option maxHeartbeats 1000000 in
theorem clone8_any (ao : Option Addr) (n cap : Nat) (zs : List Int) (w : World) (h : Rd w ao n zs) (hs : Sl ao n cap) :
    Calls Tryz.prog 66 #[.slice ao n cap] w fun e w' => ∃ ao' cap', e = .returned (.slice ao' n cap') ∧ Ft 2 w' w.heap.size ao' n cap' zs ∧ Below w.heap.size w w' := by
  have hroom := h.room
  rcases hao : ao with _ | a
  · subst hao
    obtain ⟨rfl, rfl⟩ := hs.nil rfl
    have hz : zs = [] := List.eq_nil_of_length_eq_zero h.len
    subst hz
    have hq := fun W a n c => nilS tyL W a n c
    go_enter Tryz.func66, Tryz.ntmps66
    go_wp2
    go_ret
    exact ⟨none, 0, rfl, Ft.nil _ _ _, Below.refl _ _⟩
  · subst hao
    have hb := box_below w (.cells #[] 2)
    have hF : Ft 2 (w.alloc (.cells #[] 2)) w.heap.size (some ⟨w.heap.size, 0, none⟩) 0 0 [] := ft_new 2 w [] (by simp) (fun k hk => by simp at hk)
    have h' := h.below hb (Nat.le_refl _)
    have hq := fun W a n c => nilS tyL W a n c
    go_enter Tryz.func66, Tryz.ntmps66
    go_wp2_with (at_builtin; refine wpList_joinT tyL rfl _ _ rfl w.heap.size _ _ _ _ _ _ _ _ rfl rfl hF h' hs (by omega) hb.size ?_; intro co c w1 hf hb1; rw [Nat.zero_add, List.nil_append] at hf)
    go_ret
    exact ⟨co, c, rfl, hf, hb.trans hb1⟩
end Go.Proofs.YtppcfpiihkaopaaGreatDoor
