
/- The law's own comparisons; an item's shape. -/

import Derived.Test.YtjllmfahmlfljabA11

namespace Go.Proofs.Ytjllmfahmlfljab

open Go.RowKit

set_option linter.unusedVariables false

/-- A list of one's own, of either word. -/
theorem Fr.ft {w : World} {B : Nat} {ao : Option Addr} {n cap : Nat} {zs : List Int} (h : Fr w B ao n cap zs) : Ft 3 w B ao n cap zs := ⟨h.rd, h.own⟩

/-- A copy into a row of one's own, when it is run, of either kind of number. -/
theorem Ty.one {s e : TypeId} (ty : Ty s e) : (Try.prog.info? e).map (·.size) = some 1 := by
  obtain ⟨i0, hi, hz0, hz1, hz2⟩ := info_parts ty.info
  rw [hi]; simp [hz1]
theorem run_spliceT {s e : TypeId} (ty : Ty s e) {w : World} (tt : TypeId) (dp sp : Option Addr) (dLen dCap sLen sCap g off : Nat) (cur : List Value) (hg : w.heap[g]? = some (.cells cur.toArray e (0, 0))) (cs : List Value) (hn : cs.length = Nat.min sLen dLen)
    (hpos : 0 < cs.length → dp = some ⟨g, off, none⟩ ∧ ∃ ad, sp = some ad ∧ ∀ j v, cs[j]? = some v → w.cell? (ad.add j) = some v) (hfit : off + cs.length ≤ cur.length) (h1 : ∀ v ∈ cs, v.oneCell' = true) (B : Nat) (w0 : World) (hb : Below B w0 w) (hBg : B ≤ g) :
    ∃ w', (Builtin.copy_ #[s, s] tt #[.slice dp dLen dCap, .slice sp sLen sCap]).run Try.prog w = .ok (goInt cs.length) w' ∧ w'.heap[g]? = some (.cells (splice cur off cs).toArray e (0, 0)) ∧ Below B w0 w' := by
  by_cases h0 : cs.length = 0
  · obtain rfl : cs = [] := List.eq_nil_of_length_eq_zero h0
    exact ⟨w, run_copy_none w _ _ tt e dp sp dLen dCap sLen sCap ty.und ty.one (by simpa using hn.symm), by simpa [splice] using hg, hb⟩
  · obtain ⟨rfl, ad, rfl, hsrc⟩ := hpos (by omega)
    exact ⟨_, run_copy_row (P := Try.prog) w _ _ tt e g off dLen dCap ad sLen sCap cur.toArray e cs ty.und ty.one hg hn hsrc (by simpa using hfit) h1, by simpa [splice] using setRow_heap w g _ _ e _ hg, below_setRow hb hBg _⟩
/-- A row that holds these numbers at its head. -/
theorem Ft.row {e : TypeId} {w : World} {B g n cap : Nat} {zs : List Int} {cur : List Value} (hg : w.heap[g]? = some (.cells cur.toArray e (0, 0))) (hB : B ≤ g) (hl : zs.length = n) (hr : n * 8 ≤ 140737488351232) (hn : ∀ k, k < n → -9223372036854775808 ≤ nth zs k ∧ nth zs k ≤ 9223372036854775807)
    (hnc : n ≤ cap) (hcm : cap ≤ maxLen) (hcl : cur.length = cap) (ht : cur.take n = zs.map (Value.int .i64)) : Ft e w B (some ⟨g, 0, none⟩) n cap zs := by
  obtain ⟨ao, cap', ee, hf⟩ := Ft.mk' (e := e) (w := w) (B := B) (v := .slice (some ⟨g, 0, none⟩) n cap) hl hr hn ⟨by simp [hl], .inr ⟨g, cap, cur.toArray, rfl, hB, hg, hnc, hcm, by simp [hcl], by simpa using ht⟩⟩
  cases ee
  exact hf
end Go.Proofs.Ytjllmfahmlfljab
