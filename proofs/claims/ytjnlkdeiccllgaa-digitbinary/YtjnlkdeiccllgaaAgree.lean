
/- Contracts of package shape's Agree, and of the document's own Agree and Split. -/

import Derived.Test.YtjnlkdeiccllgaaSize
import Derived.Test.YtjnlkdeiccllgaaCopy
import Derived.Test.YtjnlkdeiccllgaaSplit2
import Derived.Deep.RegionLaw


namespace Go.Proofs.Ytjnlkdeiccllgaa

open Go.RowKit

set_option linter.unusedVariables false

theorem ediv_zero_iff {p : Int} (hp : 1 ≤ p) : 4096 / p = 0 ↔ 4096 < p := by
  constructor
  · intro h
    by_cases c : 4096 < p
    · exact c
    · have : 1 ≤ 4096 / p := (Int.le_ediv_iff_mul_le (by omega)).2 (by omega)
      omega
  · intro h; exact Int.ediv_eq_zero_of_lt (by omega) h

end Go.Proofs.Ytjnlkdeiccllgaa




namespace Go.Proofs.Ytjnlkdeiccllgaa

open Go.RowKit

set_option linter.unusedVariables false

theorem below_drewN {B : Nat} {a w : World} (h : Below B a w) : ∀ n, Below B a (w.drewN n)
  | 0 => h
  | n + 1 => ⟨(below_drewN h n).os, (below_drewN h n).tape, (below_drewN h n).output, (below_drewN h n).size, (below_drewN h n).block⟩

/-- A copy made by an append to nil, when it is run. -/
theorem run_copy {w : World} (ty : TypeId) (ao : Option Addr) (n cap : Nat) (zs : List Int) (h : Rd w ao n zs) :
    ∃ ao' cap' w', (Builtin.append_ #[22, 22] ty #[.slice none 0 0, .slice ao n cap]).run Try.prog w = .ok (.slice ao' n cap') w' ∧ Fr w' w.heap.size ao' n cap' zs ∧ Below w.heap.size w w' := by
  have hroom := h.room
  have hlen := h.len
  by_cases h0 : n = 0
  · subst h0
    have hz : zs = [] := List.eq_nil_of_length_eq_zero hlen
    subst hz
    exact ⟨none, 0, w, append_nothing _ _ _ _, Fr.nil _ _, Below.refl _ _⟩
  · obtain ⟨b, off, rfl, hb, hc⟩ := h.cells (by omega)
    obtain ⟨i0, hi, hz0, hz1, hz2⟩ := info_parts info3
    obtain ⟨v', w', hrun, hown, hgrow, _⟩ := run_append_own (P := Try.prog) w w.heap.size 22 ty 3 i0 (.int .i64 0) 1 8 Try.underlying22 hi hz0 hz1 hz2 rfl (by decide) (.slice none 0 0) 0 [] (World.ownsRow_nil _ _ _ _) ⟨b, off, none⟩ n cap (zs.map (Value.int .i64)) (by rw [List.length_map, hlen, Nat.mul_one]) (Rd.news hlen hc) (ints_one zs) (by unfold maxLen; omega) (by omega) (Nat.le_refl _)
    rw [Nat.zero_add, List.nil_append] at hown
    obtain ⟨ao', cap', rfl, hfr⟩ := Fr.mk' hlen hroom h.num hown
    exact ⟨ao', cap', w', hrun, hfr, (Below.refl _ _).grown hgrow (Nat.le_refl _) (fun k e => by simp [Value.ownBlock] at e)⟩

theorem wpList_copy {w : World} {ops : Array Oper} {rest : List Oper} {o : Oper} {a : Act} {Q : Exit → Act → World → Prop} (hgd : o.guard = none) (s x : Operand)
    (ho : o.op = .call { callee := .builtin .append, args := #[s, x], argTypes := #[22, 22] }) (ao : Option Addr) (n cap : Nat) (zs : List Int)
    (hs : a.eval s = .slice none 0 0) (hx : a.eval x = .slice ao n cap) (h : Rd w ao n zs)
    (hK : ∀ ao' cap' w', Fr w' w.heap.size ao' n cap' zs → Below w.heap.size w w' → wpList Try.prog ops Q rest (a.put o.dst (.slice ao' n cap')) w') : wpList Try.prog ops Q (o :: rest) a w := by
  obtain ⟨ao', cap', w', hrun, hf, hb⟩ := run_copy o.type ao n cap zs h
  exact wpList_append_run hgd s x 22 ho _ (by rw [hs, hx]; exact hrun) (hK _ _ _ hf hb)

theorem step_copy {ops : Array Oper} {o : Oper} {a : Act} {w : World} {K : Act → World → Prop} {Q : Exit → Act → World → Prop} {E : Prop}
    (hg : o.guard = none) (s x : Operand) (ho : o.op = .call { callee := .builtin .append, args := #[s, x], argTypes := #[22, 22] }) (ao : Option Addr) (n cap : Nat) (zs : List Int)
    (hs : a.eval s = .slice none 0 0) (hx : a.eval x = .slice ao n cap) (h : Rd w ao n zs)
    (hK : ∀ ao' cap' w', Fr w' w.heap.size ao' n cap' zs → Below w.heap.size w w' → K (a.put o.dst (.slice ao' n cap')) w') :
    if Region.wanted o (yielded ops a.tmps) = true then Oper.wp Try.prog o a w K Q else E := by
  have hw : Region.wanted o (yielded ops a.tmps) = true := by simp [Region.wanted, hg]
  rw [if_pos hw]
  obtain ⟨ao', cap', w', hrun, hf, hb⟩ := run_copy o.type ao n cap zs h
  unfold Oper.wp
  simp [execOp, ho, resolve, invoke, builtin, hs, hx, hrun, Result.andThen]
  exact hK _ _ _ hf hb

/-- Do two agree: is the shorter one the beginning of the longer one? -/
def agrB (a b : List Int) : Bool := if b.length < a.length then eqB b (a.take b.length) else eqB a (b.take a.length)
def agrL (a b : List Int) : List Int := if agrB a b = true then (if b.length < a.length then a else b) else []
def agrE (a b : List Int) : Int := if agrB a b = true then 0 else 11

theorem ret_lone {ao bo : Option Addr} {n m c d : Nat} {x y : Int} (h1 : ao = bo) (h2 : n = m) (h3 : c = d) (h : x = y) : Ending.returned (.tuple #[.slice ao n c, .int .i64 x]) = .returned (.tuple #[.slice bo m d, .int .i64 y]) := by rw [h1, h2, h3, h]

end Go.Proofs.Ytjnlkdeiccllgaa
