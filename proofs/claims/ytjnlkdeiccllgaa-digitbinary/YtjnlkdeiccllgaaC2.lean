
/- Contract: slices.Insert of one number at the head of a list of one's own. -/

import Derived.Test.YtjnlkdeiccllgaaC1
import Derived.Lib.AppendZerosOnto
import Derived.Lib.Overlaps
import Derived.Deep.RegionLaw




namespace Go.Proofs.Ytjnlkdeiccllgaa

open Go.RowKit

set_option linter.unusedVariables false

/-- A box of one number, as a list. -/
theorem one_rd {w : World} {vb : Nat} {n : Int} (hv : w.heap[vb]? = some (.cells #[.int .i64 n] 3 (0, 0))) (h1 : -9223372036854775808 ≤ n) (h2 : n ≤ 9223372036854775807) : Rd w (some ⟨vb, 0, none⟩) 1 [n] := by
  refine ⟨rfl, by omega, fun k hk => ?_, fun _ => ⟨vb, 0, rfl, (Array.getElem?_eq_some_iff.1 hv).1, fun k hk => ?_⟩⟩
  · obtain rfl : k = 0 := by omega
    exact ⟨h1, h2⟩
  · obtain rfl : k = 0 := by omega
    exact (cell_of_row w vb 0 _ _ (0, 0) hv).trans rfl
theorem one_sl (vb : Nat) : Sl (some ⟨vb, 0, none⟩) 1 1 := ⟨fun e => (by cases e), Nat.le_refl _, by omega⟩

/-- A copy into a row: that row alone is changed. -/
theorem run_spliceG {s e : TypeId} (ty : Ty s e) {w : World} (tt : TypeId) (dp sp : Option Addr) (dLen dCap sLen sCap g off : Nat) (cur : List Value) (hg : w.heap[g]? = some (.cells cur.toArray e (0, 0))) (cs : List Value) (hn : cs.length = Nat.min sLen dLen)
    (hpos : 0 < cs.length → dp = some ⟨g, off, none⟩ ∧ ∃ ad, sp = some ad ∧ ∀ j v, cs[j]? = some v → w.cell? (ad.add j) = some v) (hfit : off + cs.length ≤ cur.length) (h1 : ∀ v ∈ cs, v.oneCell' = true) :
    ∃ w', (Builtin.copy_ #[s, s] tt #[.slice dp dLen dCap, .slice sp sLen sCap]).run Try.prog w = .ok (goInt cs.length) w' ∧ w'.heap[g]? = some (.cells (splice cur off cs).toArray e (0, 0)) ∧ w.grownBy w' (some g) := by
  by_cases h0 : cs.length = 0
  · obtain rfl : cs = [] := List.eq_nil_of_length_eq_zero h0
    exact ⟨w, run_copy_none w _ _ tt e dp sp dLen dCap sLen sCap ty.und ty.one (by simpa using hn.symm), by simpa [splice] using hg, World.grownBy.refl _ _⟩
  · obtain ⟨rfl, ad, rfl, hsrc⟩ := hpos (by omega)
    exact ⟨_, run_copy_row (P := Try.prog) w _ _ tt e g off dLen dCap ad sLen sCap cur.toArray e cs ty.und ty.one hg hn hsrc (by simpa using hfit) h1, by simpa [splice] using setRow_heap w g _ _ e _ hg,
      ⟨rfl, rfl, rfl, by simp, fun k _ hk => setRow_other w g k _ (fun e => hk (by rw [e]))⟩⟩
theorem wp_spliceG {s e : TypeId} (ty : Ty s e) {w : World} {o : Oper} {a : Act} {K : Act → World → Prop} {Q : Exit → Act → World → Prop} (d x : Operand) (ho : o.op = .call { callee := .builtin .copy, args := #[d, x], argTypes := #[s, s] })
    (dp sp : Option Addr) (dLen dCap sLen sCap : Nat) (hd : a.eval d = .slice dp dLen dCap) (hs : a.eval x = .slice sp sLen sCap) (g off : Nat) (cur : List Value) (hg : w.heap[g]? = some (.cells cur.toArray e (0, 0))) (cs : List Value) (hn : cs.length = Nat.min sLen dLen)
    (hpos : 0 < cs.length → dp = some ⟨g, off, none⟩ ∧ ∃ ad, sp = some ad ∧ ∀ j v, cs[j]? = some v → w.cell? (ad.add j) = some v) (hfit : off + cs.length ≤ cur.length) (h1 : ∀ v ∈ cs, v.oneCell' = true)
    (h : ∀ w', Hid (w'.heap[g]? = some (.cells (splice cur off cs).toArray e (0, 0))) → w.grownBy w' (some g) → K (a.put o.dst (goInt cs.length)) w') : o.wp Try.prog a w K Q := by
  obtain ⟨w', hr, h2, h3⟩ := run_spliceG ty o.type dp sp dLen dCap sLen sCap g off cur hg cs hn hpos hfit h1
  unfold Oper.wp execOp
  simp only [ho, resolve, invoke, builtin, Sem.run_bind, Sem.run_pure, Result.andThen_ok, List.map_toArray, List.map_cons, List.map_nil, hd, hs, hr]
  exact h w' h2 h3
theorem wpList_spliceG {s e : TypeId} (ty : Ty s e) {w : World} {ops : Array Oper} {rest : List Oper} {o : Oper} {a : Act} {Q : Exit → Act → World → Prop} (hgd : o.guard = none) (d x : Operand) (ho : o.op = .call { callee := .builtin .copy, args := #[d, x], argTypes := #[s, s] })
    (dp sp : Option Addr) (dLen dCap sLen sCap : Nat) (hd : a.eval d = .slice dp dLen dCap) (hs : a.eval x = .slice sp sLen sCap) (g off : Nat) (cur : List Value) (hg : w.heap[g]? = some (.cells cur.toArray e (0, 0))) (cs : List Value) (hn : cs.length = Nat.min sLen dLen)
    (hpos : 0 < cs.length → dp = some ⟨g, off, none⟩ ∧ ∃ ad, sp = some ad ∧ ∀ j v, cs[j]? = some v → w.cell? (ad.add j) = some v) (hfit : off + cs.length ≤ cur.length) (h1 : ∀ v ∈ cs, v.oneCell' = true)
    (h : ∀ w', Hid (w'.heap[g]? = some (.cells (splice cur off cs).toArray e (0, 0))) → w.grownBy w' (some g) → wpList Try.prog ops Q rest (a.put o.dst (goInt cs.length)) w') : wpList Try.prog ops Q (o :: rest) a w :=
  wpList_plain hgd fun _ hK => wp_spliceG ty d x ho dp sp dLen dCap sLen sCap hd hs g off cur hg cs hn hpos hfit h1 fun w' h2 h3 => hK _ _ (h w' h2 h3)
theorem step_spliceG {s e : TypeId} (ty : Ty s e) {w : World} {ops : Array Oper} {o : Oper} {a : Act} {K : Act → World → Prop} {Q : Exit → Act → World → Prop} {E : Prop} (hgd : o.guard = none) (d x : Operand) (ho : o.op = .call { callee := .builtin .copy, args := #[d, x], argTypes := #[s, s] })
    (dp sp : Option Addr) (dLen dCap sLen sCap : Nat) (hd : a.eval d = .slice dp dLen dCap) (hs : a.eval x = .slice sp sLen sCap) (g off : Nat) (cur : List Value) (hg : w.heap[g]? = some (.cells cur.toArray e (0, 0))) (cs : List Value) (hn : cs.length = Nat.min sLen dLen)
    (hpos : 0 < cs.length → dp = some ⟨g, off, none⟩ ∧ ∃ ad, sp = some ad ∧ ∀ j v, cs[j]? = some v → w.cell? (ad.add j) = some v) (hfit : off + cs.length ≤ cur.length) (h1 : ∀ v ∈ cs, v.oneCell' = true)
    (h : ∀ w', Hid (w'.heap[g]? = some (.cells (splice cur off cs).toArray e (0, 0))) → w.grownBy w' (some g) → K (a.put o.dst (goInt cs.length)) w') : if Region.wanted o (yielded ops a.tmps) = true then Oper.wp Try.prog o a w K Q else E := by
  have hw : Region.wanted o (yielded ops a.tmps) = true := by simp [Region.wanted, hgd]
  rw [if_pos hw]
  exact wp_spliceG ty d x ho dp sp dLen dCap sLen sCap hd hs g off cur hg cs hn hpos hfit h1 h

theorem take_splices {cur zs : List Value} {v : Value} {k : Nat} (hl : k + 1 ≤ cur.length) (hz : zs.length = k) : (splice (splice cur 1 zs) 0 [v]).take (k + 1) = v :: zs := by
  unfold splice
  cases cur with
  | nil => simp at hl
  | cons x r =>
    simp at hl
    simp [hz]
theorem take_splices' {cur zs : List Value} {v : Value} {k : Nat} (hl : k + 1 ≤ cur.length) (hz : zs.length = k) : (splice (splice cur 0 [v]) 1 zs).take (k + 1) = v :: zs := by
  unfold splice
  cases cur with
  | nil => simp at hl
  | cons x r =>
    simp at hl
    simp [hz]
theorem nth_cons (n : Int) (zs : List Int) {w : World} {ao : Option Addr} {k : Nat} (h : Rd w ao k zs) (h1 : -9223372036854775808 ≤ n) (h2 : n ≤ 9223372036854775807) : ∀ j, j < k + 1 → -9223372036854775808 ≤ nth (n :: zs) j ∧ nth (n :: zs) j ≤ 9223372036854775807
  | 0, _ => ⟨h1, h2⟩
  | j + 1, hj => h.num j (by omega)

theorem arr_list (x : Array Value) : ∃ l : List Value, x = l.toArray := ⟨x.toList, by simp⟩
/-- Zeros behind nothing, where there is no room: a new row. -/
theorem run_zeros (w : World) (ty : TypeId) (g c m : Nat) (hm0 : 0 < m) (hm : m ≤ 5000) (hc : c < m) :
    ∃ cap cur w1, (Builtin.append_ #[22, 3] ty #[.slice (some ⟨g, 0, none⟩) 0 c, .int .i64 (m : Nat)]).run Try.prog w = .ok (.slice (some ⟨w.heap.size, 0, none⟩) m cap) w1 ∧ w1.heap[w.heap.size]? = some (.cells (cur : List Value).toArray 3 (0, 0)) ∧ cur.length = cap ∧ m ≤ cap ∧ cap ≤ maxLen ∧ Below w.heap.size w w1 := by
  obtain ⟨i0, hi, hz0, hz1, hz2⟩ := info_parts tyI.info
  have hr := Lib.run_append_grow_zeros (P := Try.prog) w 22 3 ty 3 i0 (.int .i64 0) .i64 .i64 Try.underlying22 Try.underlying3 hi hz0 (some ⟨g, 0, none⟩) 0 c [] (run_firstCells_some _ _ 0 ⟨g, 0, none⟩ 0 c [] (by simp) (fun j v h => by simp at h)) m hm0 (by omega) (by omega) (by omega) (by rw [hz2]; omega) (by
    rw [hz2]
    have := nextslicecap_le (need := 0 + m) (old := c) (by omega)
    omega)
  rw [Nat.zero_add] at hr
  have g1 := grownCap_ge w m c 3
  have g2 := grownCap_le_maxLen w m c 3 (by unfold maxLen; omega)
  generalize grownCap w m c 3 = cap at *
  have hn := allocNew w.drew (.cells (#[] ++ Builtin.zeroCells (Value.int IntKind.i64 0).cells m ++ Builtin.zeroCells (Value.int IntKind.i64 0).cells (cap - m)) 3)
  obtain ⟨cur, hcur⟩ : ∃ cur : List Value, #[] ++ Builtin.zeroCells (Value.int IntKind.i64 0).cells m ++ Builtin.zeroCells (Value.int IntKind.i64 0).cells (cap - m) = cur.toArray := arr_list _
  have hl : (#[] ++ Builtin.zeroCells (Value.int IntKind.i64 0).cells m ++ Builtin.zeroCells (Value.int IntKind.i64 0).cells (cap - m)).size = cap := by
    simp [Builtin.zeroCells, Value.cells]
    omega
  rw [hcur] at hr hn hl
  exact ⟨cap, cur, _, hr, hn, by simpa using hl, g1, g2, (Below.refl _ w).drew.alloc (by simp) _⟩
end Go.Proofs.Ytjnlkdeiccllgaa
