
/- A joiner: what it holds; contracts: Begin, places. -/

import Derived.Test.YtldhochafkcpiaaGreatC8

namespace Go.Proofs.YtldhochafkcpiaaGreat

open Go.RowKit

set_option linter.unusedVariables false

/-- The frame, the cell's shape, and the atoms of the j-th cell. -/
def frm (sh : List Int) (r : Int) : List Int := sh.take (sh.length - rankF sh.length r)
def inn (sh : List Int) (r : Int) : List Int := sh.drop (sh.length - rankF sh.length r)
def clz (sh : List Int) (r : Int) : Nat := (pr (inn sh r)).toNat
def cls (sh at' : List Int) (r : Int) (j : Nat) : List Int × List Int := (inn sh r, (at'.drop (j * clz sh r)).take (clz sh r))
def npl (sh : List Int) (r : Int) : Nat := (pr (frm sh r)).toNat

end Go.Proofs.YtldhochafkcpiaaGreat


namespace Go.Proofs.YtldhochafkcpiaaGreat

open Go.RowKit

set_option linter.unusedVariables false

/-- A row of another kind is changed: a list of one's own stays. -/
theorem Ft.kind {e : TypeId} {W W' : World} {B b : Nat} {o : Option Addr} {n c : Nat} {zs : List Int} (h : Ft e W B o n c zs) (hg : W.grownBy W' (some b)) {cur : Array Value} {t : TypeId} (hb : W.heap[b]? = some (.cells cur t (0, 0))) (hne : e ≠ t) : Ft e W' B o n c zs :=
  h.keep1 hg (fun b' off e' => by
    intro e2
    rcases h.own.2 with ⟨e3, _⟩ | ⟨g, c', cur', e3, _, hg', _⟩
    · cases e3; cases e'
    · cases e3; cases e'; cases e2
      rw [hg'] at hb
      cases hb
      exact hne rfl)
/-- The common shape of the first n. -/
def cmn (xs : Nat → List Int × List Int) : Nat → List Int
  | 0 => []
  | n + 1 => if n = 0 then (xs 0).1 else com (cmn xs n) (xs n).1

end Go.Proofs.YtldhochafkcpiaaGreat
