
/- The hand in which a list is handed in: filled, and looked at behind the call. -/

import Derived.Test.YtndjlbedfccnjaaJoin

import Derived.Maps.AppendAt

namespace Go.Proofs.Ytndjlbedfccnjaa

open Go.RowKit

set_option linter.unusedVariables false

/-- The i-th mark, as 64 bits hold it. -/
def mk (i : Nat) : Int := wrap64 (-70000 - (i : Int))
theorem mk_bd (i : Nat) : -9223372036854775808 ≤ mk i ∧ mk i ≤ 9223372036854775807 := by unfold mk wrap64; omega

theorem mark_any (i : Nat) (w : World) (h : i ≤ 9223372036854775807) : Calls Try.prog 37 #[.int .i64 (i : Nat)] w fun e w' => e = .returned (.int .i64 (mk i)) ∧ w' = w := by
  go_enter Try.func37, Try.ntmps37
  go_wp2
  go_ret
  exact ⟨ret_int (by unfold mk; rfl), rfl⟩

/-- A row of numbers whose first m are told. -/
structure PRow (W : World) (g cap m : Nat) (f : Nat → Int) : Prop where
  blk : ∃ cur, W.heap[g]? = some (.cells cur 3 (0, 0)) ∧ cur.size = cap ∧ ∀ k, k < m → cur[k]? = some (.int .i64 (f k))
  le : cap ≤ 9223372036854775807

theorem PRow.lt {W : World} {g cap m : Nat} {f : Nat → Int} (h : PRow W g cap m f) : g < W.heap.size := by
  obtain ⟨cur, h1, _⟩ := h.blk
  exact (Array.getElem?_eq_some_iff.1 h1).1
theorem PRow.cell {W : World} {g cap m : Nat} {f : Nat → Int} (h : PRow W g cap m f) {k : Nat} (hk : k < m) : W.cell? ⟨g, k, none⟩ = some (.int .i64 (f k)) := by
  obtain ⟨cur, h1, h2, h3⟩ := h.blk
  rw [cell_of_row W g k cur 3 (0, 0) h1]; exact h3 k hk
theorem PRow.is {W : World} {g cap m : Nat} {f : Nat → Int} (h : PRow W g cap m f) {k : Nat} (hk : k < cap) : ∃ v, W.cell? ⟨g, k, none⟩ = some v := by
  obtain ⟨cur, h1, h2, h3⟩ := h.blk
  rw [cell_of_row W g k cur 3 (0, 0) h1]
  exact ⟨cur[k], by simp [h2, hk]⟩
theorem PRow.frozen {W : World} {g cap m : Nat} {f : Nat → Int} (h : PRow W g cap m f) (k : Nat) : W.frozen? ⟨g, k, none⟩ = false := by
  obtain ⟨cur, h1, h2, h3⟩ := h.blk
  exact frozen_of_row W g k cur 3 h1
theorem PRow.set {W : World} {g cap m : Nat} {f : Nat → Int} (h : PRow W g cap m f) (hm : m < cap) (u : Int) (hu : f m = u) : PRow (W.setCell ⟨g, m, none⟩ (.int .i64 u)) g cap (m + 1) f ∧ W.grownBy (W.setCell ⟨g, m, none⟩ (.int .i64 u)) (some g) := by
  obtain ⟨cur, h1, h2, h3⟩ := h.blk
  refine ⟨⟨⟨cur.setIfInBounds m (.int .i64 u), heap_setCell_same W g m cur 3 _ h1, by simpa using h2, fun k hk => ?_⟩, h.le⟩, ⟨rfl, rfl, rfl, by simp, fun k _ hk => heap_setCell_other W ⟨g, m, none⟩ k _ (fun e => hk (by simp [e]))⟩⟩
  by_cases e : k = m
  · subst e; rw [hu]; simp [h2, hm]
  · rw [Array.getElem?_setIfInBounds_ne (Ne.symm e)]; exact h3 k (by omega)
theorem PRow.kept {W W' : World} {row : Option Nat} {g cap m : Nat} {f : Nat → Int} (h : PRow W g cap m f) (hg : W.grownBy W' row) (hne : some g ≠ row) : PRow W' g cap m f := by
  obtain ⟨cur, h1, h2, h3⟩ := h.blk
  exact ⟨⟨cur, (hg.block g h.lt hne).trans h1, h2, h3⟩, h.le⟩

theorem grown_transH {a b c : World} {r : Nat} (h : a.grownBy b (some r)) (k : b.grownBy c (some r)) : a.grownBy c (some r) :=
  ⟨k.os.trans h.os, k.tape.trans h.tape, k.output.trans h.output, Nat.le_trans h.size k.size, fun j hj hne => (k.block j (Nat.lt_of_lt_of_le hj h.size) hne).trans (h.block j hj hne)⟩

/-- Where an append to a list of one's own lays it: where it lay, or in a new block. -/
theorem join_where {w : World} (ty : TypeId) (B : Nat) (ao bo : Option Addr) (n cap m cap' : Nat) (zs ys : List Int) (h : Fr w B ao n cap zs) (g : Rd w bo m ys) (gs : Sl bo m cap') (hr : (n + m) * 8 ≤ 140737488351232) {co : Option Addr} {k c : Nat} {w' : World}
    (hrun : (Builtin.append_ #[25, 25] ty #[.slice ao n cap, .slice bo m cap']).run Try.prog w = .ok (.slice co k c) w') : co = ao ∨ co = some ⟨w.heap.size, 0, none⟩ := by
  obtain ⟨i0, hi, hz0, hz1, hz2⟩ := info_parts info3
  have hl := h.rd.len
  have gl := g.len
  cases bo with
  | none =>
    obtain ⟨rfl, rfl⟩ := gs.nil rfl
    have hr2 := run_append_owned_none (P := Try.prog) (w := w) B 25 ty 3 i0 1 Try.underlying25 hi _ n _ h.own
    rw [hr2] at hrun
    cases hrun; exact .inl rfl
  | some a =>
    have hnews : ∀ j u, (ys.map (Value.int .i64))[j]? = some u → w.cell? (a.add j) = some u := by
      intro j u hu
      have hj : j < m := by
        have := (List.getElem?_eq_some_iff.1 hu).1
        simpa [gl] using this
      obtain ⟨b, off, e, _, hc⟩ := g.cells (by omega)
      cases e
      exact Rd.news gl hc j u hu
    rcases h.own.2 with ⟨e, rfl⟩ | ⟨g0, cp, cur, e, hb, hg, hnc, hcm, hcs, ht⟩
    · cases e
      by_cases hm : m = 0
      · subst hm
        rw [append_nothing] at hrun
        cases hrun; exact .inl rfl
      · have hr2 := run_append_nil (P := Try.prog) w 25 ty 3 i0 (.int .i64 0) Try.underlying25 hi hz0 a m cap' (ys.map (Value.int .i64)) (by rw [List.length_map, gl, hz1, Nat.mul_one]) hnews (by omega) (by omega) (by rw [hz2]; omega)
        rw [hr2] at hrun
        cases hrun; exact .inr rfl
    · cases e
      by_cases hroom : n + m ≤ cap
      · have hr2 := run_append_room (P := Try.prog) w 25 ty 3 i0 Try.underlying25 hi g0 n cap cur hg a m cap' (ys.map (Value.int .i64)) (by rw [List.length_map, gl, hz1, Nat.mul_one]) hnews (ints_one ys) hroom (by rw [hz1, List.length_map, gl, hcs]; omega)
        rw [hr2] at hrun
        cases hrun; exact .inl rfl
      · have hr2 := run_append_grow (P := Try.prog) w 25 ty 3 i0 (.int .i64 0) Try.underlying25 hi hz0 ⟨g0, 0, none⟩ n cap (zs.map (Value.int .i64)) (by rw [List.length_map, hl, hz1, Nat.mul_one]) (h.own.cells (g := g0) rfl) a m cap' (ys.map (Value.int .i64)) (by rw [List.length_map, gl, hz1, Nat.mul_one]) hnews (by omega) (by omega) (growslice_fits (by omega) (by rw [hz2]; omega))
        rw [hr2] at hrun
        cases hrun; exact .inr rfl

/-- An append to a list of one's own: what else becomes of the world. -/
theorem wpList_joinG {w : World} {ops : Array Oper} {rest : List Oper} {o : Oper} {a : Act} {Q : Exit → Act → World → Prop} (hgd : o.guard = none) (s x : Operand)
    (ho : o.op = .call { callee := .builtin .append, args := #[s, x], argTypes := #[25, 25] }) (B : Nat) (ao bo : Option Addr) (n cap m cap' : Nat) (zs ys : List Int)
    (hs : a.eval s = .slice ao n cap) (hx : a.eval x = .slice bo m cap') (h : Fr w B ao n cap zs) (g : Rd w bo m ys) (gs : Sl bo m cap') (hr : (n + m) * 8 ≤ 140737488351232) (hB : B ≤ w.heap.size)
    (hK : ∀ co c w', Fr w' B co (n + m) c (zs ++ ys) → w.grownBy w' (Value.slice ao n cap).ownBlock → (co = ao ∨ co = some ⟨w.heap.size, 0, none⟩) → wpList Try.prog ops Q rest (a.put o.dst (.slice co (n + m) c)) w') : wpList Try.prog ops Q (o :: rest) a w := by
  obtain ⟨co, c, w', hrun, hf, hg⟩ := run_join o.type B ao bo n cap m cap' zs ys h g gs hr hB
  exact wpList_append_run hgd s x 25 ho _ (by rw [hs, hx]; exact hrun) (hK _ _ _ hf hg (join_where o.type B ao bo n cap m cap' zs ys h g gs hr hrun))

/-- What a hand holds: nothing, or a row of its own. -/
structure Hd (W : World) (B : Nat) (p : Addr) (go : Option Addr) (gn : Nat) : Prop where
  cell : W.cell? p = some (.slice go gn gn)
  frozen : W.frozen? p = false
  base : B ≤ p.block
  row : (go = none ∧ gn = 0) ∨ ∃ g, go = some ⟨g, 0, none⟩ ∧ B ≤ g ∧ g ≠ p.block ∧ PRow W g gn 0 (fun _ => 0)

theorem Hd.fr {W : World} {B : Nat} {p : Addr} {go : Option Addr} {gn : Nat} (h : Hd W B p go gn) : Fr W B go 0 gn [] := by
  rcases h.row with ⟨rfl, rfl⟩ | ⟨g, rfl, h1, h2, h3⟩
  · exact Fr.nil _ _
  · obtain ⟨cur, c1, c2, _⟩ := h3.blk
    exact ⟨Rd.empty _ _, rfl, .inr ⟨g, gn, cur, rfl, h1, c1, Nat.zero_le _, by unfold maxLen; have := h3.le; omega, by omega, rfl⟩⟩

/-- The numbers of a list with marks behind them. -/
def marked (zs : List Int) (n : Nat) (k : Nat) : Int := if k < n then nth zs k else mk k

/-- All that lies outside some blocks is as it was. -/
structure Keep (w w' : World) (S : Nat → Prop) : Prop where
  os : w'.os = w.os
  tape : w'.tape = w.tape
  output : w'.output = w.output
  size : w.heap.size ≤ w'.heap.size
  block : ∀ k, k < w.heap.size → ¬ S k → w'.heap[k]? = w.heap[k]?

theorem Keep.trans {a b c : World} {S T : Nat → Prop} (h : Keep a b S) (k : Keep b c T) (hT : ∀ j, j < a.heap.size → T j → S j) : Keep a c S :=
  ⟨k.os.trans h.os, k.tape.trans h.tape, k.output.trans h.output, Nat.le_trans h.size k.size, fun j hj hn => (k.block j (Nat.lt_of_lt_of_le hj h.size) (fun t => hn (hT j hj t))).trans (h.block j hj hn)⟩
theorem Keep.of {w w' : World} {row : Option Nat} (h : w.grownBy w' row) : Keep w w' (fun b => some b = row) := ⟨h.os, h.tape, h.output, h.size, fun k hk hn => h.block k hk hn⟩
theorem Keep.below {w w' : World} {S : Nat → Prop} {B : Nat} (h : Keep w w' S) (hB : B ≤ w.heap.size) (hS : ∀ j, j < B → ¬ S j) : Below B w w' := ⟨h.os, h.tape, h.output, h.size, fun k hk => h.block k (by omega) (hS k hk)⟩

theorem widen {a b : World} {S T : Nat → Prop} (h : Keep a b S) (hT : ∀ j, S j → T j) : Keep a b T := ⟨h.os, h.tape, h.output, h.size, fun k hk hn => h.block k hk (fun s => hn (hT k s))⟩
theorem grown_set (W : World) (b o : Nat) (v : Value) : W.grownBy (W.setCell ⟨b, o, none⟩ v) (some b) :=
  ⟨rfl, rfl, rfl, by simp, fun k _ hk => heap_setCell_other W ⟨b, o, none⟩ k _ (fun e => hk (by simp [e]))⟩
theorem set_other (W : World) (b o o' : Nat) (v : Value) (h : o' ≠ o) : (W.setCell ⟨b, o, none⟩ v).cell? ⟨b, o', none⟩ = W.cell? ⟨b, o', none⟩ :=
  World.cell?_setCell_other W ⟨b, o, none⟩ ⟨b, o', none⟩ v (fun e => h (by cases e; rfl))

theorem ints_keep {w w3 w5 : World} {o : Obj} {go co3 : Option Addr} {gn n c3 g5 : Nat} (hg3 : w.grownBy w3 (Value.slice go 0 gn).ownBlock) (hw3 : co3 = go ∨ co3 = some ⟨w.heap.size, 0, none⟩)
    (hg5 : (w3.alloc o).grownBy w5 (Value.slice co3 n c3).ownBlock) (hw5 : (some ⟨g5, 0, none⟩ : Option Addr) = co3 ∨ (some ⟨g5, 0, none⟩ : Option Addr) = some ⟨(w3.alloc o).heap.size, 0, none⟩) :
    Keep w w5 (fun b => some b = (Value.slice go 0 gn).ownBlock) ∧ (go = some ⟨g5, 0, none⟩ ∨ w.heap.size ≤ g5) := by
  have hs := hg3.size
  have k1 : Keep w (w3.alloc o) (fun b => some b = (Value.slice go 0 gn).ownBlock) := (Keep.of hg3).trans (Keep.of (World.grownBy_alloc w3 o none)) (fun j _ e => by cases e)
  refine ⟨k1.trans (Keep.of hg5) (fun j hj e => ?_), ?_⟩
  · rcases hw3 with rfl | rfl
    · cases co3 with
      | none => cases e
      | some a => exact e
    · simp [Value.ownBlock] at e; omega
  · rcases hw5 with e | e
    · rcases hw3 with rfl | rfl
      · exact .inl e.symm
      · cases e; exact .inr (Nat.le_refl _)
    · cases e; exact .inr (by simp; omega)

theorem ints_keep2 {w w5 wr wz : World} {go : Option Addr} {gn hb g5 : Nat} (hk5 : Keep w w5 (fun b => some b = (Value.slice go 0 gn).ownBlock)) (hgk : w5.grownBy wr (some g5)) (hfr5 : go = some ⟨g5, 0, none⟩ ∨ w.heap.size ≤ g5) (gs : wr.grownBy wz (some hb)) :
    Keep w wz (fun b => b = hb ∨ some b = (Value.slice go 0 0).ownBlock) := by
  have k0 : Keep w w5 (fun b => b = hb ∨ some b = (Value.slice go 0 0).ownBlock) := widen hk5 (fun j e => .inr (by cases go <;> exact e))
  have k1 : Keep w wr (fun b => b = hb ∨ some b = (Value.slice go 0 0).ownBlock) := k0.trans (Keep.of hgk) (fun j hj e => by
    cases e
    rcases hfr5 with e | e
    · subst e; exact .inr rfl
    · omega)
  exact k1.trans (Keep.of gs) (fun j hj e => by cases e; exact .inl rfl)

/-- What a hand is behind Ints: the list, marks in all the room behind; all else as it was. -/
structure Handed (w w' : World) (B hb ho : Nat) (go : Option Addr) (n : Nat) (zs : List Int) (g cap : Nat) : Prop where
  room : n + 2 ≤ cap
  base : B ≤ g
  ne : g ≠ hb
  fresh : go = some ⟨g, 0, none⟩ ∨ w.heap.size ≤ g
  row : PRow w' g cap cap (marked zs n)
  cell : w'.cell? ⟨hb, ho, none⟩ = some (.slice (some ⟨g, 0, none⟩) cap cap)
  frozen : w'.frozen? ⟨hb, ho, none⟩ = false
  keep : Keep w w' (fun b => b = hb ∨ some b = (Value.slice go 0 0).ownBlock)
  others : ∀ o, o ≠ ho → w'.cell? ⟨hb, o, none⟩ = w.cell? ⟨hb, o, none⟩ ∧ w'.frozen? ⟨hb, o, none⟩ = w.frozen? ⟨hb, o, none⟩
  blk : ∀ cur t, w.heap[hb]? = some (.cells cur t (0, 0)) → ∃ cur', w'.heap[hb]? = some (.cells cur' t (0, 0)) ∧ cur'.size = cur.size

set_option maxHeartbeats 8000000 in
theorem ints_small (hb ho B : Nat) (go : Option Addr) (gn : Nat) (lo : Option Addr) (n cap : Nat) (zs : List Int) (w : World) (hh : Hd w B ⟨hb, ho, none⟩ go gn) (h : Rd w lo n zs) (hs : Sl lo n cap) (hsm : n ≤ 100000000) (hB : B ≤ w.heap.size) (hgn : gn ≤ n + 70000) :
    Calls Try.prog 18 #[.pointer (some ⟨hb, ho, none⟩), .slice lo n cap] w fun e w' => ∃ g c, e = .returned (.slice (some ⟨g, 0, none⟩) n c) ∧ Handed w w' B hb ho go n zs g c := by
  have hc := hh.cell
  have hz := hh.frozen
  have hroom := h.room
  have hF := hh.fr
  have hp : hb < w.heap.size := World.block_lt_of_cell? w _ hc
  have hbB : B ≤ hb := hh.base
  have hsl : (go = none ∧ gn = 0) ∨ ∃ g, go = some ⟨g, 0, none⟩ ∧ g ≠ hb := by
    rcases hh.row with h | ⟨g, e, _, hn, _⟩
    · exact .inl h
    · exact .inr ⟨g, e, hn⟩
  have hle : gn ≤ 9223372036854775807 := by
    rcases hh.row with h | ⟨g, e, _, _, p⟩
    · omega
    · exact p.le
  have hmark := fun i w h => mark_any i w h
  have HL : Hid (zs.length = n) := h.len
  rcases hsl with ⟨rfl, rfl⟩ | ⟨g0, rfl, hne0⟩
  all_goals
    go_enter Try.func18, Try.ntmps18
    go_wp2_with (first
      | (at_builtin; refine wpList_joinG rfl (.tmp 25) (.tmp 26) rfl B _ _ _ _ _ _ _ _ rfl rfl hF h hs (by omega) hB ?_; intro co3 c3 w3 hf3 hg3 hw3; rw [Nat.zero_add, List.nil_append] at hf3; have hf4 := hf3.kept (World.grownBy_alloc w3 (.cells #[.int .i64 0, .int .i64 0] 3) none) (by simp); have hsz3 := hg3.size)
      | (at_builtin; refine wpList_joinG rfl (.tmp 28) (.tmp 29) rfl B _ _ _ _ _ _ _ _ rfl rfl hf4 (rdA w3 [0, 0] (by decide)) (slA _ 2 (by omega)) (by omega) (by simp; omega) ?_; intro co5 c5 w5 hf5 hg5 hw5; obtain ⟨g5, e5, hB5, hl5, _, _⟩ := hf5.head (by omega); subst e5))
    obtain ⟨hk5, hfr5⟩ := ints_keep hg3 hw3 hg5 hw5
    have hn5 : n + 2 ≤ c5 := hf5.sl.le
    have hm5 : c5 ≤ 9223372036854775807 := hf5.sl.max
    have hg5b : g5 ≠ hb := by
      rcases hfr5 with e | e
      · cases e <;> assumption
      · omega
    have hpr : PRow w5 g5 c5 n (marked zs n) := by
      rcases hf5.own.2 with ⟨e, _⟩ | ⟨g', c', cur, e, _, hg, _, _, hcs, ht⟩
      · cases e
      · cases e
        refine ⟨⟨cur, hg, by omega, fun k hk => ?_⟩, hm5⟩
        have h2 : (cur.toList.take ((n + 2) * 1))[k]? = some (.int .i64 (nth zs k)) := by
          rw [ht, List.map_append, List.getElem?_append_left (by rw [List.length_map, HL.out]; exact hk)]
          exact nth_map (by rw [HL.out]; exact hk)
        rw [List.getElem?_take_of_lt (by omega)] at h2
        unfold marked; rw [if_pos hk]
        simpa using h2
    have hcp : w5.heap[hb]? = w.heap[hb]? := hk5.block hb hp (by simp [Value.ownBlock]; try (intro e; exact hne0 e.symm))
    clear hf5 hf4 hf3 hg3 hg5 hw3 hw5 hF
    go_loopw [7] (fun i wr => ∃ k : Nat, n ≤ k ∧ k ≤ c5 ∧ i = .int .i64 (k : Nat) ∧ PRow wr g5 c5 k (marked zs n) ∧ w5.grownBy wr (some g5)) (fun i _ => c5 - (intOf i).toNat)
    case atStart => exact ⟨n, Nat.le_refl _, by omega, rfl, hpr, ⟨rfl, rfl, rfl, Nat.le_refl _, fun _ _ _ => rfl⟩⟩
    case round =>
      obtain ⟨k, hk1, hk2, rfl, hpk, hgk⟩ := hrel
      by_cases hlt : k < c5
      · obtain ⟨v0, cv⟩ := hpk.is hlt
        have zv := hpk.frozen k
        obtain ⟨s1, s2⟩ := hpk.set hlt (mk k) (by unfold marked; rw [if_neg (by omega)])
        go_wp2_with (go_at_call 37; refine (hmark k _ (by omega)).mono ?_; rintro e w' ⟨rfl, hw⟩; rw [hw]; clear hw w')
        go_roundw
        case rel => exact ⟨k + 1, by omega, by omega, by go_num, s1, grown_transH hgk s2⟩
        case measure => simp [intOf]; omega
      · obtain rfl : c5 = k := by omega
        have hcr : wr.heap[hb]? = w.heap[hb]? := (hgk.block hb (Nat.lt_of_lt_of_le hp hk5.size) (some_ne (Ne.symm hg5b))).trans hcp
        have cp : wr.cell? ⟨hb, ho, none⟩ = w.cell? ⟨hb, ho, none⟩ := World.cell?_of_block hcr
        have zp : wr.frozen? ⟨hb, ho, none⟩ = w.frozen? ⟨hb, ho, none⟩ := World.frozen?_of_block hcr
        rw [hc] at cp
        rw [hz] at zp
        go_wp2
        go_ret
        have gs : wr.grownBy (wr.setCell ⟨hb, ho, none⟩ (.slice (some ⟨g5, 0, none⟩) c5 c5)) (some hb) := grown_set _ _ _ _
        refine ⟨g5, c5, rfl, hn5, hB5, hg5b, hfr5, hpk.kept gs (some_ne hg5b), World.cell?_setCell_same' _ _ _ (by rw [cp]; rfl), by rw [World.frozen?_setCell]; exact zp, ?_, fun o hne => ?_, fun cur t e => ⟨_, heap_setCell_same wr hb ho cur t _ (hcr.trans e), by simp⟩⟩
        · exact ints_keep2 hk5 hgk hfr5 gs
        · have e1 : wr.cell? ⟨hb, o, none⟩ = w.cell? ⟨hb, o, none⟩ := World.cell?_of_block hcr
          have e2 : wr.frozen? ⟨hb, o, none⟩ = w.frozen? ⟨hb, o, none⟩ := World.frozen?_of_block hcr
          exact ⟨by rw [set_other _ _ _ _ _ hne, e1], by rw [World.frozen?_setCell]; exact e2⟩
end Go.Proofs.Ytndjlbedfccnjaa
