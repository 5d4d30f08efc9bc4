
/- A joiner: what it holds; contracts: Begin, places. -/

import Derived.Test.YtcknmfhbjkadcaaGreatDoorC1

import Derived.Test.YtcknmfhbjkadcaaGreatDoorA7

import Derived.Test.YtcknmfhbjkadcaaGreatDoorMath2

import Derived.Test.YtcknmfhbjkadcaaGreatDoorA10

import Derived.Lib.AppendZerosOnto

import Derived.Lib.Overlaps

import Derived.Deep.RegionLaw

import Derived.Test.YtcknmfhbjkadcaaGreatDoorWalks

import Derived.Laws.AppendOwnNone

namespace Go.Proofs.YtcknmfhbjkadcaaGreatDoor

open Go.RowKit

set_option linter.unusedVariables false

/-- A part of a slice, wherever it lies. -/
theorem Rd.sub {w : World} {ao po : Option Addr} {n ac lo hi : Nat} {zs : List Int} (h : Rd w ao n zs) (hs : Sl ao n ac) (hpo : (if ac = lo then ao else Option.map (fun x => x.add lo) ao) = po) (h1 : lo ≤ hi) (h2 : hi ≤ n) : Rd w po (hi - lo) ((zs.drop lo).take (hi - lo)) ∧ Sl po (hi - lo) (ac - lo) := by
  have hle := hs.le
  have hmx := hs.max
  subst hpo
  by_cases c : ac = lo
  · rw [if_pos c]
    have e : hi - lo = 0 := by omega
    rw [e, List.take_zero]
    exact ⟨Rd.empty _ _, fun e' => ⟨rfl, by omega⟩, by omega, by omega⟩
  · rw [if_neg c]
    cases ao with
    | none => have := hs.nil rfl; omega
    | some a =>
      refine ⟨?_, fun e => (by simp at e), by omega, by omega⟩
      by_cases h0 : hi - lo = 0
      · rw [h0, List.take_zero]; exact Rd.empty _ _
      · obtain ⟨b, off, e, _, _⟩ := h.cells (by omega)
        cases e
        have := h.part (lo := lo) (hi := hi) (z := hi - lo) (by omega) h2
        rw [Option.map_some, add_at]
        exact this

end Go.Proofs.YtcknmfhbjkadcaaGreatDoor

namespace Go.Proofs.YtcknmfhbjkadcaaGreatDoor

open Go.RowKit

set_option linter.unusedVariables false

theorem grown_trans {a b c : World} {r : Option Nat} (h : a.grownBy b r) (k : b.grownBy c r) : a.grownBy c r :=
  ⟨k.os.trans h.os, k.tape.trans h.tape, k.output.trans h.output, Nat.le_trans h.size k.size, fun j hj hne => (k.block j (Nat.lt_of_lt_of_le hj h.size) hne).trans (h.block j hj hne)⟩
theorem set4 (W : World) (b : Nat) (x y u v : Value) : W.grownBy ((((W.setCell ⟨b, 0, none⟩ x).setCell ⟨b, 1, none⟩ y).setCell ⟨b, 2, none⟩ u).setCell ⟨b, 3, none⟩ v) (some b) :=
  grown_trans (set2 W b 0 1 x y) (set2 _ b 2 3 u v)
end Go.Proofs.YtcknmfhbjkadcaaGreatDoor

namespace Go.Proofs.YtcknmfhbjkadcaaGreatDoor

open Go.RowKit

set_option linter.unusedVariables false

/-- A row of another kind is changed: a list of one's own stays. -/
theorem Ft.kind {e : TypeId} {W W' : World} {B b : Nat} {o : Option Addr} {n c : Nat} {zs : List Int} (h : Ft e W B o n c zs) (hg : W.grownBy W' (some b)) {cur : Array Value} {t : TypeId} (hb : W.heap[b]? = some (.cells cur t (0, 0))) (hne : e ≠ t) : Ft e W' B o n c zs :=
  h.keep1 hg (fun b' off e' => by
    intro e2
    rcases h.own.2 with ⟨e3, _⟩ | ⟨g, c', cur', e3, _, hg', _⟩
    · cases e3; cases e'
    · cases e3; cases e'; cases e2
      rw [hg'] at hb
      cases hb
      exact hne rfl)
end Go.Proofs.YtcknmfhbjkadcaaGreatDoor
