
/- Lists of arrays; contract: an array's cells. -/

import Derived.Test.YthncgocjegalhaaAgree

import Derived.Test.YthncgocjegalhaaMath2

import Derived.RangeFuncBound

import Derived.Deep.OwnRows

import Derived.RangeFuncNested

import Derived.RangeFuncCalls

import Derived.RangeFuncLeaves

import Derived.Shelf.Abstract

import Derived.Shelf.RegionOpen

import Derived.WalkKit

import Derived.OwnWalkIn

import Derived.TacticsInMore

import Derived.LoopNIn

import Derived.LoopIn

import Derived.Laws.AppendOwnNone

import Derived.Test.YthncgocjegalhaaC4

namespace Go.Proofs.Ythncgocjegalhaa

open Go.RowKit

set_option linter.unusedVariables false

theorem Fr.head {w : World} {B : Nat} {ao : Option Addr} {n cap : Nat} {zs : List Int} (h : Fr w B ao n cap zs) (h0 : 0 < n) :
    ∃ g, ao = some ⟨g, 0, none⟩ ∧ B ≤ g ∧ g < w.heap.size ∧ (∀ k, k < n → w.cell? ⟨g, k, none⟩ = some (.int .i64 (nth zs k))) ∧ ∀ k, w.frozen? ⟨g, k, none⟩ = false := by
  rcases h.own.2 with ⟨e, h1⟩ | ⟨g, c, cur, e, hb, hg, _⟩
  · omega
  · cases e
    refine ⟨g, rfl, hb, (Array.getElem?_eq_some_iff.1 hg).1, fun k hk => ?_, fun k => h.own.frozenAt k⟩
    rw [h.own.cellAt k (by omega), nth_map (by rw [h.rd.len]; exact hk)]

theorem nth_set {zs : List Int} {j k : Nat} {u : Int} (hj : j < zs.length) : nth (zs.set j u) k = if k = j then u else nth zs k := by
  unfold nth
  by_cases e : k = j
  · subst e; simp [hj]
  · rw [if_neg e]
    simp [Ne.symm e]

theorem Fr.set {w : World} {B g : Nat} {n cap : Nat} {zs : List Int} (h : Fr w B (some ⟨g, 0, none⟩) n cap zs) (j : Nat) (hj : j < n) (u : Int) (h1 : -9223372036854775808 ≤ u) (h2 : u ≤ 9223372036854775807) :
    Fr (w.setCell ⟨g, j, none⟩ (.int .i64 u)) B (some ⟨g, 0, none⟩) n cap (zs.set j u) := by
  have hl := h.rd.len
  have hs := (h.own.stored j (.int .i64 u)).1
  rw [show (zs.map (Value.int .i64)).set j (.int .i64 u) = (zs.set j u).map (Value.int .i64) by rw [List.map_set]] at hs
  obtain ⟨ao, c, e, hf⟩ := Fr.mk' (zs := zs.set j u) (by rw [List.length_set]; exact hl) h.rd.room (fun k hk => by
    rw [nth_set (by omega)]
    split
    · exact ⟨h1, h2⟩
    · exact h.rd.num k hk) hs
  cases e
  exact hf

end Go.Proofs.Ythncgocjegalhaa

namespace Go.Proofs.Ythncgocjegalhaa

open Go.RowKit

set_option linter.unusedVariables false

/-- The k-th of some lists. -/
def row (zss : List (List Int)) (k : Nat) : List Int := zss.getD k []

end Go.Proofs.Ythncgocjegalhaa

namespace Go.Proofs.Ythncgocjegalhaa

open Go.RowKit

set_option linter.unusedVariables false

theorem bt {B : Nat} {a b c : World} (h : Below B a b) (k : Below b.heap.size b c) (hB : B ≤ b.heap.size) : Below B a c := h.trans (k.mono hB)

end Go.Proofs.Ythncgocjegalhaa

namespace Go.Proofs.Ythncgocjegalhaa

open Go.RowKit

set_option linter.unusedVariables false

theorem agr_true {a b : List Int} (h : agrB a b = true) : (agrL a b).take a.length = a ∧ (agrL a b).take b.length = b ∧ (agrL a b).length = Nat.max a.length b.length := by
  have e : agrL a b = if b.length < a.length then a else b := by unfold agrL; rw [if_pos h]
  unfold agrB at h
  by_cases c : b.length < a.length
  · rw [if_pos c] at h e
    simp only [eqB, decide_eq_true_eq] at h
    rw [e]
    exact ⟨List.take_length, h.symm, (Nat.max_eq_left (by omega)).symm⟩
  · rw [if_neg c] at h e
    simp only [eqB, decide_eq_true_eq] at h
    rw [e]
    exact ⟨h.symm, List.take_length, (Nat.max_eq_right (by omega)).symm⟩
end Go.Proofs.Ythncgocjegalhaa

namespace Go.Proofs.Ythncgocjegalhaa

open Go.RowKit

set_option linter.unusedVariables false

theorem mayF_drop {sh : List Int} (h : mayF sh = 0) : ∀ p, mayF (sh.drop p) = 0
  | 0 => h
  | p + 1 => by have := mayF_tail (mayF_drop h p); rwa [List.drop_drop] at this
theorem prF_bd {sh : List Int} (h : mayF sh = 0) : 0 ≤ pr sh ∧ pr sh ≤ 4096 := by
  have := pr_small h sh.length (Nat.le_refl _)
  rwa [List.take_length] at this

end Go.Proofs.Ythncgocjegalhaa
