
/- Contract of the document's own Split. -/

import Derived.Test.YtmepcenbaohcoaaGreatRefs

import Derived.Deep.RegionWith

import Derived.Deep.RegionLaw

import Derived.RangeFuncBound

import Derived.Deep.OwnRows

import Derived.RangeFuncNested

import Derived.RangeFuncCalls

import Derived.RangeFuncLeaves

import Derived.Shelf.Abstract

import Derived.Shelf.RegionOpen

import Derived.WalkKit

import Derived.OwnWalkIn

import Derived.TacticsInMore

import Derived.LoopNIn

import Derived.LoopIn

namespace Go.Proofs.YtmepcenbaohcoaaGreat

open Go.RowKit

set_option linter.unusedVariables false

def apart (ao bo : Option Addr) : Prop := ∀ a b, ao = some a → bo = some b → a.block ≠ b.block

theorem Rd.drew {w : World} {ao : Option Addr} {n : Nat} {zs : List Int} (h : Rd w ao n zs) : Rd w.drew ao n zs :=
  h.below (Below.refl _ w).drew (Nat.le_refl _)

theorem Rd.take {w : World} {ao : Option Addr} {n : Nat} {zs : List Int} (h : Rd w ao n zs) (p : Nat) (hp : p ≤ n) : Rd w ao p (zs.take p) := by
  refine ⟨by rw [List.length_take, h.len]; omega, by have := h.room; omega, fun k hk => by rw [nth_take hk]; exact h.num k (by omega), fun h0 => ?_⟩
  obtain ⟨b, off, e, hb, hc⟩ := h.cells (by omega)
  exact ⟨b, off, e, hb, fun k hk => by rw [nth_take hk]; exact hc k (by omega)⟩

theorem Rd.dropAt {w : World} {b off : Nat} {n : Nat} {zs : List Int} (h : Rd w (some ⟨b, off, none⟩) n zs) (p : Nat) (hp : p ≤ n) : Rd w (some ⟨b, off + p, none⟩) (n - p) (zs.drop p) := by
  refine ⟨by rw [List.length_drop, h.len], by have := h.room; omega, fun k hk => by rw [nth_drop]; exact h.num _ (by omega), fun h0 => ?_⟩
  obtain ⟨b', off', e, hb, hc⟩ := h.cells (by omega)
  cases e
  exact ⟨b, off + p, rfl, hb, fun k hk => by rw [nth_drop, Nat.add_assoc]; exact hc _ (by omega)⟩

theorem Rd.dropAll {w : World} {ao bo : Option Addr} {n : Nat} {zs : List Int} (h : Rd w ao n zs) (p : Nat) (hp : n ≤ p) : Rd w bo (n - p) (zs.drop p) := by
  have e : zs.drop p = [] := List.drop_eq_nil_of_le (by rw [h.len]; exact hp)
  rw [e, show n - p = 0 by omega]
  exact Rd.empty _ _

end Go.Proofs.YtmepcenbaohcoaaGreat

namespace Go.Proofs.YtmepcenbaohcoaaGreat

open Go.RowKit

set_option linter.unusedVariables false

/-- What every slice keeps: nil has no room; as long as its room at most. -/
structure Sl (ao : Option Addr) (n cap : Nat) : Prop where
  nil : ao = none → n = 0 ∧ cap = 0
  le : n ≤ cap
  max : cap ≤ 9223372036854775807

end Go.Proofs.YtmepcenbaohcoaaGreat

namespace Go.Proofs.YtmepcenbaohcoaaGreat

open Go.RowKit

set_option linter.unusedVariables false

theorem below_drewN {B : Nat} {a w : World} (h : Below B a w) : ∀ n, Below B a (w.drewN n)
  | 0 => h
  | n + 1 => ⟨(below_drewN h n).os, (below_drewN h n).tape, (below_drewN h n).output, (below_drewN h n).size, (below_drewN h n).block⟩

end Go.Proofs.YtmepcenbaohcoaaGreat

namespace Go.Proofs.YtmepcenbaohcoaaGreat

open Go.RowKit

set_option linter.unusedVariables false

/-- A list with ones put ahead up to N numbers: the i-th of them. -/
def ext (a : List Int) (N i : Nat) : Int := if N - a.length ≤ i then nth a (i - (N - a.length)) else 1
end Go.Proofs.YtmepcenbaohcoaaGreat

namespace Go.Proofs.YtmepcenbaohcoaaGreat

open Go.RowKit

set_option linter.unusedVariables false

/-- The k-th of some lists. -/
def row (zss : List (List Int)) (k : Nat) : List Int := zss.getD k []

end Go.Proofs.YtmepcenbaohcoaaGreat

namespace Go.Proofs.YtmepcenbaohcoaaGreat

open Go.RowKit

set_option linter.unusedVariables false

structure Fr (w : World) (B : Nat) (ao : Option Addr) (n cap : Nat) (zs : List Int) : Prop where
  rd : Rd w ao n zs
  own : w.ownsRow B 3 1 (.slice ao n cap) n (zs.map (Value.int .i64))
theorem Fr.mk' {w : World} {B : Nat} {v : Value} {n : Nat} {zs : List Int} (hl : zs.length = n) (hr : n * 8 ≤ 140737488351232) (hn : ∀ k, k < n → -9223372036854775808 ≤ nth zs k ∧ nth zs k ≤ 9223372036854775807)
    (h : w.ownsRow B 3 1 v n (zs.map (Value.int .i64))) : ∃ ao cap, v = .slice ao n cap ∧ Fr w B ao n cap zs := by
  have h' := h
  rcases h.2 with ⟨rfl, h0⟩ | ⟨g, cap, cur, rfl, hb, hg, hnc, hcm, hcs, ht⟩
  · subst h0
    exact ⟨none, 0, rfl, ⟨hl, hr, hn, fun h => by omega⟩, h⟩
  · refine ⟨_, cap, rfl, ⟨hl, hr, hn, fun _ => ⟨g, 0, rfl, (Array.getElem?_eq_some_iff.1 hg).1, fun k hk => ?_⟩⟩, h⟩
    have := h'.cells (g := g) rfl k _ (nth_map (by omega))
    have e : (⟨g, 0, none⟩ : Addr).add k = ⟨g, 0 + k, none⟩ := by cases k <;> simp [Addr.add]
    rwa [e] at this
theorem Fr.nil (w : World) (B : Nat) : Fr w B none 0 0 [] := ⟨Rd.nil w, World.ownsRow_nil _ _ _ _⟩
theorem Fr.mono {w : World} {B B' : Nat} {ao : Option Addr} {n cap : Nat} {zs : List Int} (h : Fr w B ao n cap zs) (hb : B' ≤ B) : Fr w B' ao n cap zs := by
  refine ⟨h.rd, h.own.1, ?_⟩
  rcases h.own.2 with h0 | ⟨g, c, cur, e, hB, r⟩
  · exact .inl h0
  · exact .inr ⟨g, c, cur, e, Nat.le_trans hb hB, r⟩
theorem Fr.below {B B' : Nat} {w w' : World} {ao : Option Addr} {n cap : Nat} {zs : List Int} (h : Fr w B ao n cap zs) (hb : Below B' w w') (hB : w.heap.size ≤ B') : Fr w' B ao n cap zs := by
  refine ⟨h.rd.below hb hB, h.own.1, ?_⟩
  rcases h.own.2 with h0 | ⟨g, c, cur, e, hB2, hg, r⟩
  · exact .inl h0
  · exact .inr ⟨g, c, cur, e, hB2, by rw [hb.block g (Nat.lt_of_lt_of_le (Array.getElem?_eq_some_iff.1 hg).1 hB)]; exact hg, r⟩
theorem info3 : (Tryz.prog.info? 3).map (fun i => (i.zero, i.size, i.bytes)) = some (some (.int .i64 0), 1, 8) := by kernel_rfl
theorem append_nothing (ty : TypeId) (ao : Option Addr) (cap : Nat) (w : World) : (Builtin.append_ #[25, 25] ty #[.slice none 0 0, .slice ao 0 cap]).run Tryz.prog w = .ok (.slice none 0 0) w := by
  obtain ⟨i0, hi, hz0, hz1, hz2⟩ := info_parts info3
  cases ao with
  | none => simp [Builtin.append_, run_underlying Tryz.underlying25, sizeOf, typeInfo, hi, Builtin.lenOf, Builtin.firstCells]
  | some a => simp [Builtin.append_, run_underlying Tryz.underlying25, sizeOf, typeInfo, hi, Builtin.lenOf, Builtin.firstCells, loadCells, loadCellsFrom]
theorem rankF_le (k : Nat) (r : Int) : rankF k r ≤ k := by unfold rankF; split <;> omega
theorem two_own {w w1 w2 : World} {ao1 ao2 : Option Addr} {p q cap1 cap2 : Nat} {l1 l2 : List Int} (hf1 : Fr w1 w.drew.heap.size ao1 p cap1 l1) (hb1 : Below w.drew.heap.size w.drew w1)
    (hf2 : Fr w2 w1.heap.size ao2 q cap2 l2) (hb2 : Below w1.heap.size w1 w2) : Fr w2 w.heap.size ao1 p cap1 l1 ∧ Fr w2 w.heap.size ao2 q cap2 l2 ∧ apart ao1 ao2 ∧ Below w.heap.size w w2 := by
  have hs : w.heap.size ≤ w1.heap.size := hb1.size
  refine ⟨hf1.below hb2 (Nat.le_refl _), hf2.mono hs, ?_, (Below.refl _ w).drew.trans (hb1.trans (hb2.mono hs))⟩
  intro a b ea eb
  rcases hf1.own.2 with ⟨e, _⟩ | ⟨g, c, cur, e, h1, hg, _⟩
  · cases e; cases ea
  · rcases hf2.own.2 with ⟨e2, _⟩ | ⟨g2, c2, cur2, e2, h2, hg2, _⟩
    · cases e2; cases eb
    · cases e; cases e2; cases ea; cases eb
      have := (Array.getElem?_eq_some_iff.1 hg).1
      simp; omega
theorem Rd.ways {w : World} {ao : Option Addr} {n cap : Nat} {zs : List Int} (h : Rd w ao n zs) (hs : Sl ao n cap) : (ao = none ∧ n = 0 ∧ cap = 0 ∧ zs = []) ∨ (∃ a, ao = some a ∧ n = 0 ∧ zs = []) ∨ ∃ b off, ao = some ⟨b, off, none⟩ ∧ 0 < n := by
  by_cases h0 : n = 0
  · have hz : zs = [] := List.eq_nil_of_length_eq_zero (by rw [h.len, h0])
    cases ao with
    | none => exact .inl ⟨rfl, h0, (hs.nil rfl).2, hz⟩
    | some a => exact .inr (.inl ⟨a, rfl, h0, hz⟩)
  · obtain ⟨b, off, e, _⟩ := h.cells (by omega)
    exact .inr (.inr ⟨b, off, e, by omega⟩)
theorem refRank_any (k : Nat) (r : Int) (w : World) (hk : k * 8 ≤ 140737488351232) (h1 : -9223372036854775808 ≤ r) (h2 : r ≤ 9223372036854775807) :
    Calls Tryz.prog 103 #[.int .i64 (k : Nat), .int .i64 r] w fun e w' => e = .returned (.int .i64 (rankF k r : Nat)) ∧ w' = w := by
  go_enter Tryz.func103, Tryz.ntmps103
  go_wp2
  all_goals (go_ret; exact ⟨ret_int (by unfold rankF; split <;> omega), rfl⟩)
theorem run_copy {w : World} (ty : TypeId) (ao : Option Addr) (n cap : Nat) (zs : List Int) (h : Rd w ao n zs) :
    ∃ ao' cap' w', (Builtin.append_ #[25, 25] ty #[.slice none 0 0, .slice ao n cap]).run Tryz.prog w = .ok (.slice ao' n cap') w' ∧ Fr w' w.heap.size ao' n cap' zs ∧ Below w.heap.size w w' := by
  have hroom := h.room
  have hlen := h.len
  by_cases h0 : n = 0
  · subst h0
    have hz : zs = [] := List.eq_nil_of_length_eq_zero hlen
    subst hz
    exact ⟨none, 0, w, append_nothing _ _ _ _, Fr.nil _ _, Below.refl _ _⟩
  · obtain ⟨b, off, rfl, hb, hc⟩ := h.cells (by omega)
    obtain ⟨i0, hi, hz0, hz1, hz2⟩ := info_parts info3
    obtain ⟨v', w', hrun, hown, hgrow, _⟩ := run_append_own (P := Tryz.prog) w w.heap.size 25 ty 3 i0 (.int .i64 0) 1 8 Tryz.underlying25 hi hz0 hz1 hz2 rfl (by decide) (.slice none 0 0) 0 [] (World.ownsRow_nil _ _ _ _) ⟨b, off, none⟩ n cap (zs.map (Value.int .i64)) (by rw [List.length_map, hlen, Nat.mul_one]) (Rd.news hlen hc) (ints_one zs) (by unfold maxLen; omega) (by omega) (Nat.le_refl _)
    rw [Nat.zero_add, List.nil_append] at hown
    obtain ⟨ao', cap', rfl, hfr⟩ := Fr.mk' hlen hroom h.num hown
    exact ⟨ao', cap', w', hrun, hfr, (Below.refl _ _).grown hgrow (Nat.le_refl _) (fun k e => by simp [Value.ownBlock] at e)⟩
theorem step_copy {ops : Array Oper} {o : Oper} {a : Act} {w : World} {K : Act → World → Prop} {Q : Exit → Act → World → Prop} {E : Prop}
    (hg : o.guard = none) (s x : Operand) (ho : o.op = .call { callee := .builtin .append, args := #[s, x], argTypes := #[25, 25] }) (ao : Option Addr) (n cap : Nat) (zs : List Int)
    (hs : a.eval s = .slice none 0 0) (hx : a.eval x = .slice ao n cap) (h : Rd w ao n zs)
    (hK : ∀ ao' cap' w', Fr w' w.heap.size ao' n cap' zs → Below w.heap.size w w' → K (a.put o.dst (.slice ao' n cap')) w') :
    if Region.wanted o (yielded ops a.tmps) = true then Oper.wp Tryz.prog o a w K Q else E := by
  have hw : Region.wanted o (yielded ops a.tmps) = true := by simp [Region.wanted, hg]
  rw [if_pos hw]
  obtain ⟨ao', cap', w', hrun, hf, hb⟩ := run_copy o.type ao n cap zs h
  unfold Oper.wp
  simp [execOp, ho, resolve, invoke, builtin, hs, hx, hrun, Result.andThen]
  exact hK _ _ _ hf hb
end Go.Proofs.YtmepcenbaohcoaaGreat

namespace Go.Proofs.YtmepcenbaohcoaaGreat

open Go.RowKit Go.Deep

set_option linter.unusedVariables false

set_option maxHeartbeats 2000000 in
theorem refSplit_some (b off : Nat) (n cap : Nat) (zs : List Int) (r : Int) (w : World) (h : Rd w (some ⟨b, off, none⟩) n zs) (hcap : n ≤ cap) (hcap2 : cap ≤ 9223372036854775807) (h1 : -9223372036854775808 ≤ r) (h2 : r ≤ 9223372036854775807) :
    Calls Tryz.prog 95 #[.slice (some ⟨b, off, none⟩) n cap, .int .i64 r] w fun e w' => ∃ ao1 cap1 ao2 cap2, e = .returned (.tuple #[.slice ao1 (n - rankF n r) cap1, .slice ao2 (n - (n - rankF n r)) cap2]) ∧
      Fr w' w.heap.size ao1 (n - rankF n r) cap1 (zs.take (n - rankF n r)) ∧ Fr w' w.heap.size ao2 (n - (n - rankF n r)) cap2 (zs.drop (n - rankF n r)) ∧ apart ao1 ao2 ∧ Below w.heap.size w w' := by
  have hroom := h.room
  have hrk := rankF_le n r
  have hr := fun w => refRank_any n r w hroom h1 h2
  generalize rankF n r = c at *
  by_cases hq : cap = n - c
  · obtain rfl : c = 0 := by omega
    obtain rfl : cap = n := by omega
    simp only [Nat.sub_zero, Nat.sub_self] at *
    go_enter Tryz.func95, Tryz.ntmps95
    go_wp2_with (go_at_call 103; refine (hr _).mono ?_; rintro e w' ⟨rfl, rfl⟩; have hrd := h.drew.take cap (Nat.le_refl _); have hr0 : ∀ W : World, Rd W (some ⟨b, off, none⟩) 0 (zs.drop cap) := (fun W => by have := h.dropAll (bo := some ⟨b, off, none⟩) cap (Nat.le_refl _); rw [Nat.sub_self] at this; exact ⟨this.len, this.room, this.num, fun h0 => by omega⟩))
    go_region_law (first
      | (refine step_copy rfl (.const (.slice none 0 0)) (.tmp 16) rfl (some ⟨b, off, none⟩) cap cap (zs.take cap) (by simp [Act.eval]) (by simp [Act.eval, Act.put]) hrd ?_; intro ao1 cap1 w1 hf1 hb1)
      | (refine step_copy rfl (.const (.slice none 0 0)) (.tmp 20) rfl (some ⟨b, off, none⟩) 0 0 (zs.drop cap) (by simp [Act.eval]) (by simp [Act.eval]) (hr0 _) ?_; intro ao2 cap2 w2 hf2 hb2))
    all_goals go_wp2
    all_goals go_ret2
    all_goals exact ⟨_, _, _, _, rfl, two_own (by assumption) (by assumption) (by assumption) (by assumption)⟩
  · have hle1 : (n : Int) - (c : Int) ≤ (cap : Int) := by omega
    have hle2 : (n : Int) - (c : Int) ≤ (n : Int) := by omega
    go_enter Tryz.func95, Tryz.ntmps95
    go_wp2_with (go_at_call 103; refine (hr _).mono ?_; rintro e w' ⟨rfl, rfl⟩; have hrd := h.drew.take (n - c) (by omega); have hrk2 := fun W (hW : Rd W (some ⟨b, off, none⟩) n zs) => hW.dropAt (n - c) (by omega); have hrd0 := h.drew)
    go_region_law (first
      | (refine step_copy rfl (.const (.slice none 0 0)) (.tmp 16) rfl (some ⟨b, off, none⟩) (n - c) cap (zs.take (n - c)) (by simp [Act.eval]) (by simp [Act.eval, Act.put]) hrd ?_; intro ao1 cap1 w1 hf1 hb1; have hrd1 := hrk2 _ (hrd0.below hb1 (Nat.le_refl _)))
      | (refine step_copy rfl (.const (.slice none 0 0)) (.tmp 20) rfl (some ⟨b, off + (n - c), none⟩) (n - (n - c)) (cap - (n - c)) (zs.drop (n - c)) (by simp [Act.eval]) (by simp [Act.eval]) hrd1 ?_; intro ao2 cap2 w2 hf2 hb2))
    all_goals go_wp2
    all_goals go_ret2
    all_goals exact ⟨_, _, _, _, rfl, two_own (by assumption) (by assumption) (by assumption) (by assumption)⟩

set_option maxHeartbeats 2000000 in
theorem refSplit_nil (r : Int) (w : World) (h1 : -9223372036854775808 ≤ r) (h2 : r ≤ 9223372036854775807) :
    Calls Tryz.prog 95 #[.slice none 0 0, .int .i64 r] w fun e w' => ∃ ao1 cap1 ao2 cap2, e = .returned (.tuple #[.slice ao1 0 cap1, .slice ao2 0 cap2]) ∧
      Fr w' w.heap.size ao1 0 cap1 [] ∧ Fr w' w.heap.size ao2 0 cap2 [] ∧ apart ao1 ao2 ∧ Below w.heap.size w w' := by
  have hr : ∀ w, Calls Tryz.prog 103 #[.int .i64 0, .int .i64 r] w fun e w' => e = .returned (.int .i64 0) ∧ w' = w := fun w => by
    have h := refRank_any 0 r w (by omega) h1 h2
    rw [show rankF 0 r = 0 by have := rankF_le 0 r; omega] at h
    exact h
  have hr0 : ∀ W : World, Rd W none 0 [] := Rd.nil
  go_enter Tryz.func95, Tryz.ntmps95
  go_wp2_with (go_at_call 103; (with_reducible refine (hr _).mono ?_); rintro e w' ⟨rfl, rfl⟩)
  go_region_law (first
    | (refine step_copy rfl (.const (.slice none 0 0)) (.tmp 16) rfl none 0 0 [] (by simp [Act.eval]) (by simp [Act.eval, Act.put]) (hr0 _) ?_; intro ao1 cap1 w1 hf1 hb1)
    | (refine step_copy rfl (.const (.slice none 0 0)) (.tmp 20) rfl none 0 0 [] (by simp [Act.eval]) (by simp [Act.eval]) (hr0 _) ?_; intro ao2 cap2 w2 hf2 hb2))
  all_goals go_wp2
  all_goals go_ret2
  all_goals exact ⟨_, _, _, _, rfl, two_own (by assumption) (by assumption) (by assumption) (by assumption)⟩

set_option maxHeartbeats 2000000 in
theorem refSplit_zero (a : Addr) (cap : Nat) (r : Int) (w : World) (hm : cap ≤ 9223372036854775807) (h1 : -9223372036854775808 ≤ r) (h2 : r ≤ 9223372036854775807) :
    Calls Tryz.prog 95 #[.slice (some a) 0 cap, .int .i64 r] w fun e w' => ∃ ao1 cap1 ao2 cap2, e = .returned (.tuple #[.slice ao1 0 cap1, .slice ao2 0 cap2]) ∧
      Fr w' w.heap.size ao1 0 cap1 [] ∧ Fr w' w.heap.size ao2 0 cap2 [] ∧ apart ao1 ao2 ∧ Below w.heap.size w w' := by
  have hr : ∀ w, Calls Tryz.prog 103 #[.int .i64 0, .int .i64 r] w fun e w' => e = .returned (.int .i64 0) ∧ w' = w := fun w => by
    have h := refRank_any 0 r w (by omega) h1 h2
    rw [show rankF 0 r = 0 by have := rankF_le 0 r; omega] at h
    exact h
  have hr0 : ∀ W : World, Rd W (some a) 0 [] := fun W => Rd.empty W _
  by_cases h0 : cap = 0
  · subst h0
    go_enter Tryz.func95, Tryz.ntmps95
    go_wp2_with (go_at_call 103; (with_reducible refine (hr _).mono ?_); rintro e w' ⟨rfl, rfl⟩)
    go_region_law (first
      | (refine step_copy rfl (.const (.slice none 0 0)) (.tmp 16) rfl (some a) 0 0 [] (by simp [Act.eval]) (by simp [Act.eval, Act.put]) (hr0 _) ?_; intro ao1 cap1 w1 hf1 hb1)
      | (refine step_copy rfl (.const (.slice none 0 0)) (.tmp 20) rfl (some a) 0 0 [] (by simp [Act.eval]) (by simp [Act.eval]) (hr0 _) ?_; intro ao2 cap2 w2 hf2 hb2))
    all_goals go_wp2
    all_goals go_ret2
    all_goals exact ⟨_, _, _, _, rfl, two_own (by assumption) (by assumption) (by assumption) (by assumption)⟩
  · go_enter Tryz.func95, Tryz.ntmps95
    go_wp2_with (go_at_call 103; (with_reducible refine (hr _).mono ?_); rintro e w' ⟨rfl, rfl⟩)
    go_region_law (first
      | (refine step_copy rfl (.const (.slice none 0 0)) (.tmp 16) rfl (some a) 0 cap [] (by simp [Act.eval]) (by simp [Act.eval, Act.put]) (hr0 _) ?_; intro ao1 cap1 w1 hf1 hb1)
      | (refine step_copy rfl (.const (.slice none 0 0)) (.tmp 20) rfl (some a) 0 cap [] (by simp [Act.eval]) (by simp [Act.eval]) (hr0 _) ?_; intro ao2 cap2 w2 hf2 hb2))
    all_goals go_wp2
    all_goals go_ret2
    all_goals exact ⟨_, _, _, _, rfl, two_own (by assumption) (by assumption) (by assumption) (by assumption)⟩

theorem refSplit_any (ao : Option Addr) (n cap : Nat) (zs : List Int) (r : Int) (w : World) (h : Rd w ao n zs) (hs : Sl ao n cap) (h1 : -9223372036854775808 ≤ r) (h2 : r ≤ 9223372036854775807) :
    Calls Tryz.prog 95 #[.slice ao n cap, .int .i64 r] w fun e w' => ∃ ao1 cap1 ao2 cap2, e = .returned (.tuple #[.slice ao1 (n - rankF n r) cap1, .slice ao2 (rankF n r) cap2]) ∧
      Fr w' w.heap.size ao1 (n - rankF n r) cap1 (zs.take (n - rankF n r)) ∧ Fr w' w.heap.size ao2 (rankF n r) cap2 (zs.drop (n - rankF n r)) ∧ apart ao1 ao2 ∧ Below w.heap.size w w' := by
  have hrk := rankF_le n r
  rcases h.ways hs with ⟨rfl, rfl, rfl, rfl⟩ | ⟨a, rfl, rfl, rfl⟩ | ⟨b, off, rfl, h0⟩
  · rw [show rankF 0 r = 0 by omega]; simpa using refSplit_nil r w h1 h2
  · rw [show rankF 0 r = 0 by omega]; simpa using refSplit_zero a cap r w hs.max h1 h2
  · have := refSplit_some b off n cap zs r w h hs.le hs.max h1 h2
    rwa [show n - (n - rankF n r) = rankF n r by omega] at this
end Go.Proofs.YtmepcenbaohcoaaGreat
