
/- A book's room. -/

import Derived.Test.YtlajainnpnbcaaaA4

import Derived.Maps.AppendAt

import Derived.Deep.DeepAppendRoom

import Derived.Laws.OwnMore

import Derived.Test.YtlajainnpnbcaaaYT

import Derived.OrdersHeld

import Derived.RegionTactic

import Derived.Lib.JoinLaws

import Derived.Deep.DeepCutAuto

import Derived.Deep.RegionHeld3

import Derived.WalkKit

import Derived.Deep.QuietTactic

import Derived.BigQuiet

import Derived.Laws.Bits64b

import Derived.Laws.CopyOwn

import Derived.IntWalk

import Derived.Deep.OwnRows

import Derived.Handy

import Derived.Laws.AppendOwnNone

import Derived.Deep.RegionLaw

namespace Go.Proofs.Ytlajainnpnbcaaa

open Go.RowKit

set_option linter.unusedVariables false

/-- Of what was there only blocks that S tells have been written. -/
structure Chg (S : Nat → Prop) (W W' : World) : Prop where
  os : W'.os = W.os
  tape : W'.tape = W.tape
  output : W'.output = W.output
  size : W.heap.size ≤ W'.heap.size
  block : ∀ k, k < W.heap.size → ¬ S k → W'.heap[k]? = W.heap[k]?
theorem Chg.refl (S : Nat → Prop) (W : World) : Chg S W W := ⟨rfl, rfl, rfl, Nat.le_refl _, fun _ _ _ => rfl⟩
theorem Chg.trans {S : Nat → Prop} {W W' W'' : World} (h : Chg S W W') (k : Chg S W' W'') : Chg S W W'' :=
  ⟨k.os.trans h.os, k.tape.trans h.tape, k.output.trans h.output, Nat.le_trans h.size k.size, fun j hj hs => (k.block j (Nat.lt_of_lt_of_le hj h.size) hs).trans (h.block j hj hs)⟩
theorem Chg.mono {S S' : Nat → Prop} {W W' : World} (h : Chg S W W') (hs : ∀ k, k < W.heap.size → S k → S' k) : Chg S' W W' :=
  ⟨h.os, h.tape, h.output, h.size, fun j hj hn => h.block j hj fun hS => hn (hs j hj hS)⟩
theorem Chg.of_grown {W W' : World} {row : Option Nat} (h : W.grownBy W' row) : Chg (fun k => row = some k) W W' :=
  ⟨h.os, h.tape, h.output, h.size, fun j hj hn => h.block j hj fun e => hn e.symm⟩
theorem Chg.of_below {B : Nat} {W W' : World} (h : Below B W W') (hB : W.heap.size ≤ B) (S : Nat → Prop) : Chg S W W' :=
  ⟨h.os, h.tape, h.output, h.size, fun j hj _ => h.block j (Nat.lt_of_lt_of_le hj hB)⟩
theorem Chg.below {S : Nat → Prop} {B : Nat} {w W W' : World} (h : Chg S W W') (hb : Below B w W) (hS : ∀ k, S k → B ≤ k) (hB : B ≤ w.heap.size) : Below B w W' :=
  ⟨h.os.trans hb.os, h.tape.trans hb.tape, h.output.trans hb.output, Nat.le_trans hb.size h.size, fun j hj => (h.block j (Nat.lt_of_lt_of_le (Nat.lt_of_lt_of_le hj hB) hb.size) fun hs => absurd (hS j hs) (by omega)).trans (hb.block j hj)⟩
theorem Chg.own {S : Nat → Prop} {W W' : World} {B e s n : Nat} {v : Value} {xs : List Value} (k : Chg S W W') (h : W.ownsRow B e s v n xs) (hS : ∀ g, v.ownBlock = some g → ¬ S g) : W'.ownsRow B e s v n xs := by
  refine ⟨h.1, ?_⟩
  rcases h.2 with h0 | ⟨g, c, cur, rfl, hB, hg, r⟩
  · exact .inl h0
  · exact .inr ⟨g, c, cur, rfl, hB, by rw [k.block g (Array.getElem?_eq_some_iff.1 hg).1 (hS g rfl)]; exact hg, r⟩
theorem Chg.at {S : Nat → Prop} {W W' : World} {g : Nat} {o : Obj} (k : Chg S W W') (h : W.heap[g]? = some o) (hS : ¬ S g) : W'.heap[g]? = some o := by
  rw [k.block g (Array.getElem?_eq_some_iff.1 h).1 hS]; exact h
theorem ownB {W : World} {B s n : Nat} {e : TypeId} {v : Value} {xs : List Value} (h : W.ownsRow B e s v n xs) {g : Nat} (hv : v.ownBlock = some g) : ∃ cs, W.heap[g]? = some (.cells cs e (0, 0)) := by
  rcases h.2 with ⟨rfl, _⟩ | ⟨g', cap, cur, rfl, _, hg, _⟩
  · simp [Value.ownBlock] at hv
  · simp [Value.ownBlock] at hv; subst hv; exact ⟨_, hg⟩
theorem kindB {W : World} {g : Nat} {cs cs' : Array Value} {t t' : TypeId} (h : W.heap[g]? = some (.cells cs t (0, 0))) (h' : W.heap[g]? = some (.cells cs' t' (0, 0))) : t = t' := by
  rw [h] at h'
  simp at h'
  exact h'.2
theorem own_len {W : World} {B n : Nat} {e : TypeId} {v : Value} {xs : List Value} (h : W.ownsRow B e 1 v n xs) : ∃ a c, v = .slice a n c := by
  rcases h.2 with ⟨rfl, h0⟩ | ⟨g, cap, cur, rfl, _⟩
  · exact ⟨none, 0, by rw [h0]⟩
  · exact ⟨_, _, rfl⟩

/-- Lists of ints, each in memory of its own, list k full of the mark c k. -/
structure Rwi (W : World) (e : TypeId) (vs : List Value) (c : Nat → Int) : Prop where
  own : ∀ (i : Nat) (v : Value), vs[i]? = some v → ∃ l : List Int, W.ownsRow 0 e 1 v l.length (l.map (Value.int .i64)) ∧ ∀ z ∈ l, z = c i
  apart : ∀ (i j : Nat) (v u : Value) (g : Nat), vs[i]? = some v → vs[j]? = some u → v.ownBlock = some g → u.ownBlock = some g → i = j
theorem Rwi.chg {S : Nat → Prop} {W W' : World} {e : TypeId} {vs : List Value} {c : Nat → Int} (h : Rwi W e vs c) (k : Chg S W W') (hS : ∀ (i : Nat) (v : Value) (g : Nat), vs[i]? = some v → v.ownBlock = some g → ¬ S g) : Rwi W' e vs c :=
  ⟨fun i v hi => by obtain ⟨l, h1, h2⟩ := h.own i v hi; exact ⟨l, k.own h1 fun g hv => hS i v g hi hv, h2⟩, h.apart⟩
theorem Rwi.lt {W : World} {e : TypeId} {vs : List Value} {c : Nat → Int} (h : Rwi W e vs c) (i : Nat) (v : Value) (g : Nat) (hi : vs[i]? = some v) (hv : v.ownBlock = some g) : g < W.heap.size := by
  obtain ⟨l, hs, _⟩ := h.own i v hi
  exact (hs.lt g hv).2
theorem last_of {vs : List Value} {x v : Value} {i : Nat} (h : (vs ++ [x])[i]? = some v) : (vs[i]? = some v ∧ i < vs.length) ∨ (i = vs.length ∧ v = x) := by
  by_cases hlt : i < vs.length
  · rw [List.getElem?_append_left hlt] at h; exact .inl ⟨h, hlt⟩
  · rw [List.getElem?_append_right (by omega)] at h
    match hk : i - vs.length, h with
    | 0, h => simp at h; exact .inr ⟨by omega, h.symm⟩
    | n + 1, h => simp at h
/-- A list more, that is none of these. -/
theorem Rwi.push {W : World} {e : TypeId} {vs : List Value} {c : Nat → Int} {x : Value} {l : List Int} (h : Rwi W e vs c) (hx : W.ownsRow 0 e 1 x l.length (l.map (Value.int .i64))) (hl : ∀ z ∈ l, z = c vs.length) (hne : ∀ (i : Nat) (v : Value) (g : Nat), vs[i]? = some v → v.ownBlock = some g → x.ownBlock ≠ some g) : Rwi W e (vs ++ [x]) c := by
  refine ⟨fun i v hi => ?_, fun i j v u g hi hj hv hu => ?_⟩
  · rcases last_of hi with ⟨hi, _⟩ | ⟨rfl, rfl⟩
    · exact h.own i v hi
    · exact ⟨l, hx, hl⟩
  · rcases last_of hi with ⟨hi', _⟩ | ⟨e1, e2⟩ <;> rcases last_of hj with ⟨hj', _⟩ | ⟨e3, e4⟩
    · exact h.apart i j v u g hi' hj' hv hu
    · subst e4; exact absurd hu (hne i v g hi' hv)
    · subst e2; exact absurd hv (hne j u g hj' hu)
    · omega
/-- The last list is another one, in the same place. -/
theorem Rwi.last {W W' : World} {R : Nat → Prop} {e : TypeId} {vs : List Value} {c : Nat → Int} {x y : Value} {l : List Int} (h : Rwi W e (vs ++ [x]) c) (k : Chg R W W') (hR : ∀ (i : Nat) (v : Value) (g : Nat), vs[i]? = some v → v.ownBlock = some g → ¬ R g) (hy : W'.ownsRow 0 e 1 y l.length (l.map (Value.int .i64))) (hl : ∀ z ∈ l, z = c vs.length) (hxy : y.ownBlock = x.ownBlock) : Rwi W' e (vs ++ [y]) c := by
  have key : ∀ i v, vs[i]? = some v → (vs ++ [x])[i]? = some v := fun i v hi => by rw [List.getElem?_append_left (List.getElem?_eq_some_iff.1 hi).1]; exact hi
  have hx : (vs ++ [x])[vs.length]? = some x := by simp
  refine ⟨fun i v hi => ?_, fun i j v u g hi hj hv hu => ?_⟩
  · rcases last_of hi with ⟨hi, hlt⟩ | ⟨rfl, rfl⟩
    · obtain ⟨l0, h1, h2⟩ := h.own i v (key i v hi)
      exact ⟨l0, k.own h1 fun g hv => hR i v g hi hv, h2⟩
    · exact ⟨l, hy, hl⟩
  · rcases last_of hi with ⟨hi', _⟩ | ⟨e1, e2⟩ <;> rcases last_of hj with ⟨hj', _⟩ | ⟨e3, e4⟩
    · exact h.apart i j v u g (key i v hi') (key j u hj') hv hu
    · subst e4; rw [hxy] at hu; have := h.apart i vs.length v x g (key i v hi') hx hv hu; have := (List.getElem?_eq_some_iff.1 hi').1; omega
    · subst e2; rw [hxy] at hv; have := h.apart j vs.length u x g (key j u hj') hx hu hv; have := (List.getElem?_eq_some_iff.1 hj').1; omega
    · omega
theorem Rwi.ne_last {W : World} {e : TypeId} {vs : List Value} {c : Nat → Int} {x : Value} (h : Rwi W e (vs ++ [x]) c) (i : Nat) (v : Value) (g : Nat) (hi : vs[i]? = some v) (hv : v.ownBlock = some g) : x.ownBlock ≠ some g := by
  intro e
  have hlt := (List.getElem?_eq_some_iff.1 hi).1
  have := h.apart i vs.length v x g (by rw [List.getElem?_append_left hlt]; exact hi) (by simp) hv e
  omega
end Go.Proofs.Ytlajainnpnbcaaa

namespace Go.Proofs.Ytlajainnpnbcaaa

open Go.RowKit

set_option linter.unusedVariables false

/-- How far a list is grown. -/
def fr (n c : Nat) : Nat := min c (n + 70000)
theorem far_lt (n c m : Int) (w : World) (hm : IntKind.i64.wrap (n + 70000) = m) (h : c < m) : Calls Try.prog 18 #[.int .i64 n, .int .i64 c] w fun e w' => e = .returned (.int .i64 c) ∧ w' = w := by
  have h1 : decide (c < m) = true := by simp [h]
  have h2 : ¬ m < c := by omega
  have h3 : decide (m < c) = false := by simp [h2]
  have h4 : decide (m ≤ c) = false := by simp; omega
  have h5 : decide (c ≤ m) = true := by simp; omega
  go_enter Try.func18, Try.ntmps18
  go_wp2
  go_ret
  exact ⟨rfl, rfl⟩
theorem far_ge (n c m : Int) (w : World) (hm : IntKind.i64.wrap (n + 70000) = m) (h : m ≤ c) : Calls Try.prog 18 #[.int .i64 n, .int .i64 c] w fun e w' => e = .returned (.int .i64 m) ∧ w' = w := by
  have h2 : ¬ c < m := by omega
  have h3 : decide (c < m) = false := by simp [h2]
  have h5 : decide (m ≤ c) = true := by simp; omega
  go_enter Try.func18, Try.ntmps18
  go_wp2
  all_goals go_ret
  · exact ⟨rfl, rfl⟩
  · exact ⟨by rw [show c = m by omega]; rfl, rfl⟩
theorem far_any (n c : Nat) (w : World) (h : n ≤ 140737488351232) : Calls Try.prog 18 #[.int .i64 (n : Int), .int .i64 (c : Int)] w fun e w' => e = .returned (.int .i64 (fr n c : Int)) ∧ w' = w := by
  have hw : IntKind.i64.wrap ((n : Int) + 70000) = (n : Int) + 70000 := by rw [IntKind.wrap_i64]; omega
  by_cases hlt : (c : Int) < (n : Int) + 70000
  · rw [show (fr n c : Int) = (c : Int) by unfold fr; omega]; exact far_lt _ _ _ w hw hlt
  · rw [show (fr n c : Int) = (n : Int) + 70000 by unfold fr; omega]; exact far_ge _ _ _ w hw (by omega)
theorem fr_le (n c : Nat) : fr n c ≤ n + 70000 := by unfold fr; omega
theorem fr_cap (n c : Nat) : fr n c ≤ c := by unfold fr; omega
theorem box3 {W : World} {g : Nat} {x y z : Value} {t : TypeId} (h : W.heap[g]? = some (.cells #[x, y, z] t (0, 0))) :
    (W.cell? ⟨g, 0, none⟩ = some x ∧ W.cell? ⟨g, 1, none⟩ = some y ∧ W.cell? ⟨g, 2, none⟩ = some z) ∧ ∀ j, W.frozen? ⟨g, j, none⟩ = false :=
  ⟨⟨(cell_of_row W g 0 _ t (0, 0) h).trans rfl, (cell_of_row W g 1 _ t (0, 0) h).trans rfl, (cell_of_row W g 2 _ t (0, 0) h).trans rfl⟩, fun j => frozen_of_row W g j _ t h⟩

set_option maxHeartbeats 2000000 in
theorem room_no (bb : Nat) (x y : Value) (sz : Int) (so ao : Option Addr) (sn sc an ac : Nat) (w : World) (hb : w.heap[bb]? = some (.cells #[x, y, .int .i64 sz] 28 (0, 0))) (hz : 33554432 < sz) :
    Calls Try.prog 17 #[.pointer (some ⟨bb, 0, none⟩), .agg #[.slice so sn sc, .slice ao an ac]] w fun e w' => e = .returned (.bool false) ∧ Below w.heap.size w w' := by
  have k0 := box_below w (.cells #[.slice so sn sc, .slice ao an ac] 36)
  obtain ⟨⟨_, _, c2⟩, _⟩ := box3 ((k0.block bb (Array.getElem?_eq_some_iff.1 hb).1).trans hb)
  have t1 : decide (33554432 < sz) = true := by simp [hz]
  go_enter Try.func17, Try.ntmps17
  go_wp2
  go_ret
  exact ⟨rfl, k0⟩
set_option maxHeartbeats 2000000 in
theorem room_yes (bb : Nat) (x y : Value) (sz : Int) (so ao : Option Addr) (sn sc an ac : Nat) (w : World) (hb : w.heap[bb]? = some (.cells #[x, y, .int .i64 sz] 28 (0, 0))) (hz : ¬ 33554432 < sz) (hz0 : 0 ≤ sz) (hs : sn * 8 ≤ 140737488351232) (ha : an * 8 ≤ 140737488351232) (hsc : sc ≤ 9223372036854775807) (hac : ac ≤ 9223372036854775807) :
    Calls Try.prog 17 #[.pointer (some ⟨bb, 0, none⟩), .agg #[.slice so sn sc, .slice ao an ac]] w fun e w' => e = .returned (.bool true) ∧ ∃ sz' : Int, sz + 800 ≤ sz' ∧ sz' ≤ 1125899906842624 ∧ w'.heap[bb]? = some (.cells #[x, y, .int .i64 sz'] 28 (0, 0)) ∧ Chg (fun k => k = bb) w w' := by
  have k0 := box_below w (.cells #[.slice so sn sc, .slice ao an ac] 36)
  have B0 := (k0.block bb (Array.getElem?_eq_some_iff.1 hb).1).trans hb
  have X0 := allocNew w (.cells #[.slice so sn sc, .slice ao an ac] 36)
  go_enter Try.func17, Try.ntmps17
  go_upto_region 1 with fail
  generalize w.heap.size = gx at *
  have HC : Hid (Chg (fun k => k = bb) w (w.alloc (.cells #[.slice so sn sc, .slice ao an ac] 36))) := Chg.of_below (box_below w _) (Nat.le_refl _) _
  generalize w.alloc (.cells #[.slice so sn sc, .slice ao an ac] 36) = V at *
  have t1 : decide (33554432 < sz) = false := by simp [hz]
  have cF1 := fun V => far_any sn sc V (by omega)
  have cF2 := fun V => far_any an ac V (by omega)
  have f1 := fr_le sn sc
  have f2 := fr_le an ac
  obtain ⟨⟨b0, b1, b2⟩, bf⟩ := box3 B0
  obtain ⟨x0, x1, _, _⟩ := box2 X0
  have w1 : IntKind.i64.wrap (sz + 800) = sz + 800 := by rw [IntKind.wrap_i64]; omega
  have w2 : IntKind.i64.wrap (8 * (fr sn sc : Int)) = 8 * (fr sn sc : Int) := by rw [IntKind.wrap_i64]; omega
  have w3 : IntKind.i64.wrap (8 * (fr an ac : Int)) = 8 * (fr an ac : Int) := by rw [IntKind.wrap_i64]; omega
  have w4 : IntKind.i64.wrap (sz + 800 + 8 * (fr sn sc : Int)) = sz + 800 + 8 * (fr sn sc : Int) := by rw [IntKind.wrap_i64]; omega
  have w5 : IntKind.i64.wrap (sz + 800 + 8 * (fr sn sc : Int) + 8 * (fr an ac : Int)) = sz + 800 + 8 * (fr sn sc : Int) + 8 * (fr an ac : Int) := by rw [IntKind.wrap_i64]; omega
  have HS : V.drew.cell? ⟨bb, 2, none⟩ = some (.int .i64 sz) ∧ V.drew.cell? ⟨gx, 0, none⟩ = some (.slice so sn sc) ∧ V.drew.cell? ⟨gx, 1, none⟩ = some (.slice ao an ac) := ⟨b2, x0, x1⟩
  have HB : Hid (V.heap[bb]? = some (.cells #[x, y, .int .i64 sz] 28 (0, 0))) := B0
  have HZ : Hid (0 ≤ sz ∧ ¬ 33554432 < sz ∧ fr sn sc ≤ sn + 70000 ∧ fr an ac ≤ an + 70000 ∧ sn * 8 ≤ 140737488351232 ∧ an * 8 ≤ 140737488351232) := ⟨hz0, hz, f1, f2, hs, ha⟩
  clear hb X0 B0 f1 f2 hs ha hz hz0
  go_upto_region 3 with fail
  refine wp_region_R (fun V => V.cell? ⟨bb, 2, none⟩ = some (.int .i64 sz) ∧ V.cell? ⟨gx, 0, none⟩ = some (.slice so sn sc) ∧ V.cell? ⟨gx, 1, none⟩ = some (.slice ao an ac)) (fun i => i != 26) (by kernel_rfl) ?_
  refine wpAnyR_take (i := 0) (v := .pointer (some ⟨bb, 0, none⟩)) rfl (by kernel_rfl) (by kernel_rfl) (by kernel_rfl) (by kernel_rfl) (fun _ _ _ h => h) (Or.inl ⟨by rfl, fun V hV => ?_⟩) ?_ ?_
  · obtain ⟨g0, g1, g2⟩ := hV
    go_simp
  · exact HS
  conv => arg 9; simp [Act.put]
  refine wpAnyR_take (i := 1) (v := .pointer (some ⟨bb, 0, none⟩)) rfl (by kernel_rfl) (by kernel_rfl) (by kernel_rfl) (by kernel_rfl) (fun _ _ _ h => h) (Or.inl ⟨by rfl, fun V hV => ?_⟩) ?_ ?_
  · obtain ⟨g0, g1, g2⟩ := hV
    go_simp
  · exact HS
  conv => arg 9; simp [Act.put]
  refine wpAnyR_take (i := 2) (v := .pointer (some ⟨bb, 0, none⟩)) rfl (by kernel_rfl) (by kernel_rfl) (by kernel_rfl) (by kernel_rfl) (fun _ _ _ h => h) (Or.inl ⟨by rfl, fun V hV => ?_⟩) ?_ ?_
  · obtain ⟨g0, g1, g2⟩ := hV
    go_simp
  · exact HS
  conv => arg 9; simp [Act.put]
  refine wpAnyR_take (i := 3) (v := .pointer (some ⟨bb, 2, none⟩)) rfl (by kernel_rfl) (by kernel_rfl) (by kernel_rfl) (by kernel_rfl) (fun _ _ _ h => h) (Or.inl ⟨by rfl, fun V hV => ?_⟩) ?_ ?_
  · obtain ⟨g0, g1, g2⟩ := hV
    go_simp
  · exact HS
  conv => arg 9; simp [Act.put]
  refine wpAnyR_take (i := 4) (v := .int .i64 sz) rfl (by kernel_rfl) (by kernel_rfl) (by kernel_rfl) (by kernel_rfl) (fun _ _ _ h => h) (Or.inl ⟨by rfl, fun V hV => ?_⟩) ?_ ?_
  · obtain ⟨g0, g1, g2⟩ := hV
    go_simp
  · exact HS
  conv => arg 9; simp [Act.put]
  refine wpAnyR_take (i := 5) (v := .int .i64 (sz + 800)) rfl (by kernel_rfl) (by kernel_rfl) (by kernel_rfl) (by kernel_rfl) (fun _ _ _ h => h) (Or.inl ⟨by rfl, fun V hV => ?_⟩) ?_ ?_
  · obtain ⟨g0, g1, g2⟩ := hV
    go_simp
  · exact HS
  conv => arg 9; simp [Act.put]
  refine wpAnyR_take (i := 6) (v := .pointer (some ⟨gx, 0, none⟩)) rfl (by kernel_rfl) (by kernel_rfl) (by kernel_rfl) (by kernel_rfl) (fun _ _ _ h => h) (Or.inl ⟨by rfl, fun V hV => ?_⟩) ?_ ?_
  · obtain ⟨g0, g1, g2⟩ := hV
    go_simp
  · exact HS
  conv => arg 9; simp [Act.put]
  refine wpAnyR_take (i := 7) (v := .slice so sn sc) rfl (by kernel_rfl) (by kernel_rfl) (by kernel_rfl) (by kernel_rfl) (fun _ _ _ h => h) (Or.inl ⟨by rfl, fun V hV => ?_⟩) ?_ ?_
  · obtain ⟨g0, g1, g2⟩ := hV
    go_simp
  · exact HS
  conv => arg 9; simp [Act.put]
  refine wpAnyR_take (i := 8) (v := .int .i64 (sn : Int)) rfl (by kernel_rfl) (by kernel_rfl) (by kernel_rfl) (by kernel_rfl) (fun _ _ _ h => h) (Or.inl ⟨by rfl, fun V hV => ?_⟩) ?_ ?_
  · obtain ⟨g0, g1, g2⟩ := hV
    go_simp
  · exact HS
  conv => arg 9; simp [Act.put]
  refine wpAnyR_take (i := 9) (v := .pointer (some ⟨gx, 0, none⟩)) rfl (by kernel_rfl) (by kernel_rfl) (by kernel_rfl) (by kernel_rfl) (fun _ _ _ h => h) (Or.inl ⟨by rfl, fun V hV => ?_⟩) ?_ ?_
  · obtain ⟨g0, g1, g2⟩ := hV
    go_simp
  · exact HS
  conv => arg 9; simp [Act.put]
  refine wpAnyR_take (i := 10) (v := .slice so sn sc) rfl (by kernel_rfl) (by kernel_rfl) (by kernel_rfl) (by kernel_rfl) (fun _ _ _ h => h) (Or.inl ⟨by rfl, fun V hV => ?_⟩) ?_ ?_
  · obtain ⟨g0, g1, g2⟩ := hV
    go_simp
  · exact HS
  conv => arg 9; simp [Act.put]
  refine wpAnyR_take (i := 11) (v := .int .i64 (sc : Int)) rfl (by kernel_rfl) (by kernel_rfl) (by kernel_rfl) (by kernel_rfl) (fun _ _ _ h => h) (Or.inl ⟨by rfl, fun V hV => ?_⟩) ?_ ?_
  · obtain ⟨g0, g1, g2⟩ := hV
    go_simp
  · exact HS
  conv => arg 9; simp [Act.put]
  refine wpAnyR_take (i := 15) (v := .pointer (some ⟨gx, 1, none⟩)) rfl (by kernel_rfl) (by kernel_rfl) (by kernel_rfl) (by kernel_rfl) (fun _ _ _ h => h) (Or.inl ⟨by rfl, fun V hV => ?_⟩) ?_ ?_
  · obtain ⟨g0, g1, g2⟩ := hV
    go_simp
  · exact HS
  conv => arg 9; simp [Act.put]
  refine wpAnyR_take (i := 16) (v := .slice ao an ac) rfl (by kernel_rfl) (by kernel_rfl) (by kernel_rfl) (by kernel_rfl) (fun _ _ _ h => h) (Or.inl ⟨by rfl, fun V hV => ?_⟩) ?_ ?_
  · obtain ⟨g0, g1, g2⟩ := hV
    go_simp
  · exact HS
  conv => arg 9; simp [Act.put]
  refine wpAnyR_take (i := 17) (v := .int .i64 (an : Int)) rfl (by kernel_rfl) (by kernel_rfl) (by kernel_rfl) (by kernel_rfl) (fun _ _ _ h => h) (Or.inl ⟨by rfl, fun V hV => ?_⟩) ?_ ?_
  · obtain ⟨g0, g1, g2⟩ := hV
    go_simp
  · exact HS
  conv => arg 9; simp [Act.put]
  refine wpAnyR_take (i := 18) (v := .pointer (some ⟨gx, 1, none⟩)) rfl (by kernel_rfl) (by kernel_rfl) (by kernel_rfl) (by kernel_rfl) (fun _ _ _ h => h) (Or.inl ⟨by rfl, fun V hV => ?_⟩) ?_ ?_
  · obtain ⟨g0, g1, g2⟩ := hV
    go_simp
  · exact HS
  conv => arg 9; simp [Act.put]
  refine wpAnyR_take (i := 19) (v := .slice ao an ac) rfl (by kernel_rfl) (by kernel_rfl) (by kernel_rfl) (by kernel_rfl) (fun _ _ _ h => h) (Or.inl ⟨by rfl, fun V hV => ?_⟩) ?_ ?_
  · obtain ⟨g0, g1, g2⟩ := hV
    go_simp
  · exact HS
  conv => arg 9; simp [Act.put]
  refine wpAnyR_take (i := 20) (v := .int .i64 (ac : Int)) rfl (by kernel_rfl) (by kernel_rfl) (by kernel_rfl) (by kernel_rfl) (fun _ _ _ h => h) (Or.inl ⟨by rfl, fun V hV => ?_⟩) ?_ ?_
  · obtain ⟨g0, g1, g2⟩ := hV
    go_simp
  · exact HS
  conv => arg 9; simp [Act.put]
  refine wpAnyR_one (i := 12) (by kernel_rfl) rfl (fun K hK => ?_)
  go_simp
  go_wp2_with (go_at_call 18; (with_reducible refine (cF1 _).mono ?_); rintro e V1 ⟨rfl, hV1⟩; rw [hV1]; clear hV1; refine hK _ _ ⟨fun _ => HS, ?_⟩; clear hK)
  conv => arg 9; simp [Act.put]
  refine wpAnyR_take (i := 13) (v := .int .i64 (8 * (fr sn sc : Int))) rfl (by kernel_rfl) (by kernel_rfl) (by kernel_rfl) (by kernel_rfl) (fun _ _ _ h => h) (Or.inl ⟨by rfl, fun V hV => ?_⟩) ?_ ?_
  · obtain ⟨g0, g1, g2⟩ := hV
    go_simp
  · exact HS
  conv => arg 9; simp [Act.put]
  refine wpAnyR_take (i := 14) (v := .int .i64 (sz + 800 + 8 * (fr sn sc : Int))) rfl (by kernel_rfl) (by kernel_rfl) (by kernel_rfl) (by kernel_rfl) (fun _ _ _ h => h) (Or.inl ⟨by rfl, fun V hV => ?_⟩) ?_ ?_
  · obtain ⟨g0, g1, g2⟩ := hV
    go_simp
  · exact HS
  conv => arg 9; simp [Act.put]
  refine wpAnyR_one (i := 21) (by kernel_rfl) rfl (fun K hK => ?_)
  go_simp
  go_wp2_with (go_at_call 18; (with_reducible refine (cF2 _).mono ?_); rintro e V1 ⟨rfl, hV1⟩; rw [hV1]; clear hV1; refine hK _ _ ⟨fun _ => HS, ?_⟩; clear hK)
  conv => arg 9; simp [Act.put]
  refine wpAnyR_take (i := 22) (v := .int .i64 (8 * (fr an ac : Int))) rfl (by kernel_rfl) (by kernel_rfl) (by kernel_rfl) (by kernel_rfl) (fun _ _ _ h => h) (Or.inl ⟨by rfl, fun V hV => ?_⟩) ?_ ?_
  · obtain ⟨g0, g1, g2⟩ := hV
    go_simp
  · exact HS
  conv => arg 9; simp [Act.put]
  refine wpAnyR_take (i := 23) (v := .int .i64 (sz + 800 + 8 * (fr sn sc : Int) + 8 * (fr an ac : Int))) rfl (by kernel_rfl) (by kernel_rfl) (by kernel_rfl) (by kernel_rfl) (fun _ _ _ h => h) (Or.inl ⟨by rfl, fun V hV => ?_⟩) ?_ ?_
  · obtain ⟨g0, g1, g2⟩ := hV
    go_simp
  · exact HS
  conv => arg 9; simp [Act.put]
  refine wpAnyR_one (i := 24) (by kernel_rfl) rfl (fun K hK => ?_)
  go_simp
  refine hK _ _ ⟨fun _ => HS, ?_⟩
  clear hK
  conv => arg 9; simp [Act.put]
  refine wpAnyR_one (i := 25) (by kernel_rfl) rfl (fun K hK => ?_)
  go_simp
  refine hK _ _ ⟨fun _ => HS, ?_⟩
  clear hK
  conv => arg 9; simp [Act.put]
  refine wpAnyR_one (i := 26) (by kernel_rfl) rfl (fun K hK => ?_)
  go_simp
  refine hK _ _ ⟨fun h => absurd h (by decide), ?_⟩
  clear hK
  refine wpAnyR_done (by kernel_rfl) ?_ _
  go_wp2
  go_ret
  obtain ⟨z0, z1, z2, z3, z4, z5⟩ := HZ.out
  refine ⟨rfl, sz + 800 + 8 * (fr sn sc : Int) + 8 * (fr an ac : Int), by omega, by omega, ?_, ?_⟩
  · have := heap_setCell_same V.drew bb 2 #[x, y, .int .i64 sz] 28 (.int .i64 (sz + 800 + 8 * (fr sn sc : Int) + 8 * (fr an ac : Int))) HB.out
    exact this
  · have k := Chg.of_grown (set1 V.drew bb 2 (.int .i64 (sz + 800 + 8 * (fr sn sc : Int) + 8 * (fr an ac : Int))))
    exact HC.out.trans ((Chg.of_below (Below.refl V.heap.size V).drew (Nat.le_refl _) _).trans (k.mono fun j _ e => (Option.some.inj e).symm))
end Go.Proofs.Ytlajainnpnbcaaa
