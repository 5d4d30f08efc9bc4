
/- A joiner: what it holds; contracts: Begin, places. -/

import Derived.Test.YtelcagfaflpolaaGreatC9

namespace Go.Proofs.YtelcagfaflpolaaGreat

open Go.RowKit

set_option linter.unusedVariables false

/-- Arrays that a joiner was given: a row that grows, each array's lists its own. -/
structure Gv (W : World) (B : Nat) (go : Option Addr) (gn gc : Nat) (xs : Nat → List Int × List Int) : Prop where
  own : ∃ cs, W.ownsRow B 36 2 (.slice go gn gc) gn cs ∧ ∀ j, j < gn → ∃ so sn sc to tn tc, cs[j * 2]? = some (.slice so sn sc) ∧ cs[j * 2 + 1]? = some (.slice to tn tc) ∧ Ft 3 W B so sn sc (xs j).1 ∧ Ft 2 W B to tn tc (xs j).2
theorem Gv.nil (W : World) (B : Nat) (xs : Nat → List Int × List Int) : Gv W B none 0 0 xs := ⟨[], World.ownsRow_nil _ _ _ _, fun j hj => by omega⟩
theorem Gv.below {W W' : World} {B B' : Nat} {go : Option Addr} {gn gc : Nat} {xs : Nat → List Int × List Int} (h : Gv W B go gn gc xs) (hb : Below B' W W') (hB : W.heap.size ≤ B') : Gv W' B go gn gc xs := by
  obtain ⟨cs, h1, h2⟩ := h.own
  refine ⟨cs, ⟨h1.1, ?_⟩, fun j hj => ?_⟩
  · rcases h1.2 with h0 | ⟨g, c, cur, e, hB2, hg, r⟩
    · exact .inl h0
    · exact .inr ⟨g, c, cur, e, hB2, by rw [hb.block g (Nat.lt_of_lt_of_le (Array.getElem?_eq_some_iff.1 hg).1 hB)]; exact hg, r⟩
  · obtain ⟨so, sn, sc, to, tn, tc, a1, a2, a3, a4⟩ := h2 j hj
    exact ⟨so, sn, sc, to, tn, tc, a1, a2, a3.below hb hB, a4.below hb hB⟩
/-- A row of another kind is changed: a list of one's own stays. -/
theorem Ft.kind {e : TypeId} {W W' : World} {B b : Nat} {o : Option Addr} {n c : Nat} {zs : List Int} (h : Ft e W B o n c zs) (hg : W.grownBy W' (some b)) {cur : Array Value} {t : TypeId} (hb : W.heap[b]? = some (.cells cur t (0, 0))) (hne : e ≠ t) : Ft e W' B o n c zs :=
  h.keep1 hg (fun b' off e' => by
    intro e2
    rcases h.own.2 with ⟨e3, _⟩ | ⟨g, c', cur', e3, _, hg', _⟩
    · cases e3; cases e'
    · cases e3; cases e'; cases e2
      rw [hg'] at hb
      cases hb
      exact hne rfl)
theorem Gv.kind {W W' : World} {B b : Nat} {go : Option Addr} {gn gc : Nat} {xs : Nat → List Int × List Int} (h : Gv W B go gn gc xs) (hg : W.grownBy W' (some b)) {cur : Array Value} {t : TypeId} (hb : W.heap[b]? = some (.cells cur t (0, 0))) (h1 : 3 ≠ t) (h2 : 2 ≠ t) (h3 : 36 ≠ t) : Gv W' B go gn gc xs := by
  obtain ⟨cs, k1, k2⟩ := h.own
  refine ⟨cs, ⟨k1.1, ?_⟩, fun j hj => ?_⟩
  · rcases k1.2 with h0 | ⟨g, c, cur', e, hB2, hg', r⟩
    · exact .inl h0
    · refine .inr ⟨g, c, cur', e, hB2, (hg.block g (Array.getElem?_eq_some_iff.1 hg').1 (fun e2 => ?_)).trans hg', r⟩
      cases e2
      rw [hg'] at hb
      cases hb
      exact h3 rfl
  · obtain ⟨so, sn, sc, to, tn, tc, a1, a2, a3, a4⟩ := k2 j hj
    exact ⟨so, sn, sc, to, tn, tc, a1, a2, a3.kind hg hb h1, a4.kind hg hb h2⟩

/-- The common shape of the first n. -/
def cmn (xs : Nat → List Int × List Int) : Nat → List Int
  | 0 => []
  | n + 1 => if n = 0 then (xs 0).1 else com (cmn xs n) (xs n).1

/-- A joiner in the block jb: its frame, and the first n arrays that it was given. -/
structure Jn (W : World) (B jb : Nat) (fo : Option Addr) (fn fc : Nat) (co : Option Addr) (cn cc : Nat) (go : Option Addr) (gc : Nat) (fs : List Int) (xs : Nat → List Int × List Int) (n : Nat) : Prop where
  box : W.heap[jb]? = some (.cells #[.slice fo fn fc, .slice co cn cc, .slice go n gc] 79 (0, 0))
  hB : B ≤ jb
  f : Ft 3 W B fo fn fc fs
  c : Ft 3 W B co cn cc (cmn xs n)
  g : Gv W B go n gc xs
theorem Jn.below {W W' : World} {B B' jb : Nat} {fo : Option Addr} {fn fc : Nat} {co : Option Addr} {cn cc : Nat} {go : Option Addr} {gc : Nat} {fs : List Int} {xs : Nat → List Int × List Int} {n : Nat} (h : Jn W B jb fo fn fc co cn cc go gc fs xs n) (hb : Below B' W W') (hB : W.heap.size ≤ B') : Jn W' B jb fo fn fc co cn cc go gc fs xs n :=
  ⟨(hb.block jb (Nat.lt_of_lt_of_le (Array.getElem?_eq_some_iff.1 h.box).1 hB)).trans h.box, h.hB, h.f.below hb hB, h.c.below hb hB, h.g.below hb hB⟩
theorem box3 {W : World} {g : Nat} {a b c : Value} {t : TypeId} (h : W.heap[g]? = some (.cells #[a, b, c] t (0, 0))) :
    W.cell? ⟨g, 0, none⟩ = some a ∧ W.cell? ⟨g, 1, none⟩ = some b ∧ W.cell? ⟨g, 2, none⟩ = some c ∧ W.frozen? ⟨g, 0, none⟩ = false ∧ W.frozen? ⟨g, 1, none⟩ = false ∧ W.frozen? ⟨g, 2, none⟩ = false :=
  ⟨(cell_of_row W g 0 _ t (0, 0) h).trans rfl, (cell_of_row W g 1 _ t (0, 0) h).trans rfl, (cell_of_row W g 2 _ t (0, 0) h).trans rfl, frozen_of_row W g 0 _ t h, frozen_of_row W g 1 _ t h, frozen_of_row W g 2 _ t h⟩

/-- Begin's error. -/
def begE (fs : List Int) : Int := if mayF fs ≠ 0 then mayF fs else if pr fs = 0 then 11 else 0

set_option maxHeartbeats 1000000 in
theorem begin_bad (fo : Option Addr) (fn fc : Nat) (fs : List Int) (w : World) (h : Rd w fo fn fs) (hb : begE fs ≠ 0) :
    Calls Tryz.prog 15 #[.slice fo fn fc] w fun e w' => e = .returned (.tuple #[.pointer none, .int .i64 (begE fs)]) ∧ w' = w := by
  have hz := size_any fo fn fc fs w h
  by_cases h0 : mayF fs = 0
  · by_cases hp : pr fs = 0
    · have e : begE fs = 11 := by unfold begE; rw [if_neg (by omega), if_pos hp]
      rw [e]
      rw [h0, sizeF_ok h0, hp] at hz
      clear h0 hp hb e
      go_enter Tryz.func15, Tryz.ntmps15
      go_wp2_with (go_at_call 22; refine hz.mono ?_; rintro e w' ⟨rfl, hw⟩; rw [hw]; clear hw w')
      go_ret2
      exact ⟨rfl, rfl⟩
    · exact absurd (by unfold begE; rw [if_neg (by omega), if_neg hp]) hb
  · have e : begE fs = mayF fs := by unfold begE; rw [if_pos h0]
    rw [e]
    have t1 : (mayF fs != 0) = true := by simpa using h0
    clear h0 hb e
    go_enter Tryz.func15, Tryz.ntmps15
    go_wp2_with (go_at_call 22; refine hz.mono ?_; rintro e w' ⟨rfl, hw⟩; rw [hw]; clear hw w')
    go_ret2
    exact ⟨rfl, rfl⟩

set_option maxHeartbeats 1000000 in
theorem begin_ok (fo : Option Addr) (fn fc : Nat) (fs : List Int) (xs : Nat → List Int × List Int) (w : World) (h : Rd w fo fn fs) (hs : Sl fo fn fc) (hb : begE fs = 0) :
    Calls Tryz.prog 15 #[.slice fo fn fc] w fun e w' => ∃ jb o c, e = .returned (.tuple #[.pointer (some ⟨jb, 0, none⟩), .int .i64 0]) ∧ Jn w' w.heap.size jb o fn c none 0 0 none 0 fs xs 0 ∧ Below w.heap.size w w' := by
  have hz := size_any fo fn fc fs w h
  have h0 : mayF fs = 0 := by
    by_cases c : mayF fs = 0
    · exact c
    · exact absurd hb (by unfold begE; rw [if_pos c]; exact c)
  have hp : pr fs ≠ 0 := fun e => by
    have : begE fs = 11 := by unfold begE; rw [if_neg (by omega), if_pos e]
    omega
  rw [h0, sizeF_ok h0] at hz
  have t1 : (pr fs == 0) = false := by simpa using hp
  have hc := clone_any fo fn fc fs w h hs
  clear h0 hb hp
  go_enter Tryz.func15, Tryz.ntmps15
  go_wp2_with (first
    | (go_at_call 22; refine hz.mono ?_; rintro e w' ⟨rfl, hw⟩; rw [hw]; clear hw w')
    | (go_at_call 34; refine hc.mono ?_; rintro e w1 ⟨o1, c1, rfl, f1, h1⟩))
  go_ret2
  have k := box_below w1 (.cells #[.slice o1 fn c1, .slice none 0 0, .slice none 0 0] 79)
  exact ⟨w1.heap.size, o1, c1, rfl, ⟨allocNew w1 _, h1.size, f1.below k (Nat.le_refl _), Ft.nil _ _ _, Gv.nil _ _ _⟩, h1.trans (k.mono h1.size)⟩

set_option maxHeartbeats 1000000 in
theorem places_any {W : World} {B jb : Nat} {fo : Option Addr} {fn fc : Nat} {co : Option Addr} {cn cc : Nat} {go : Option Addr} {gc : Nat} {fs : List Int} {xs : Nat → List Int × List Int} {n : Nat} (h : Jn W B jb fo fn fc co cn cc go gc fs xs n) (h0 : mayF fs = 0) :
    Calls Tryz.prog 38 #[.pointer (some ⟨jb, 0, none⟩)] W fun e w' => e = .returned (.int .i64 (pr fs)) ∧ w' = W := by
  have hz := size_any fo fn fc fs W h.f.rd
  rw [h0, sizeF_ok h0] at hz
  obtain ⟨x0, x1, x2, _, _, _⟩ := box3 h.box
  go_enter Tryz.func38, Tryz.ntmps38
  go_wp2_with (go_at_call 22; refine hz.mono ?_; rintro e w' ⟨rfl, hw⟩; rw [hw]; clear hw w')
  go_ret
  exact ⟨rfl, rfl⟩
end Go.Proofs.YtelcagfaflpolaaGreat
