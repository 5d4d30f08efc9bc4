
/- Contract: some items in a row. -/

import Derived.Test.YtelcagfaflpolaaGreatA11
import Derived.Lib.AppendZerosOnto
import Derived.Lib.Overlaps
import Derived.Deep.RegionLaw
import Derived.Test.YtelcagfaflpolaaGreatB1

namespace Go.Proofs.YtelcagfaflpolaaGreat

open Go.RowKit

set_option linter.unusedVariables false

/-- A list of one's own, of either word. -/
theorem Fr.ft {w : World} {B : Nat} {ao : Option Addr} {n cap : Nat} {zs : List Int} (h : Fr w B ao n cap zs) : Ft 3 w B ao n cap zs := ⟨h.rd, h.own⟩

set_option maxHeartbeats 1000000 in
theorem item4_any (so ao : Option Addr) (sn sc an ac : Nat) (sh : List Int) (w : World) (h : Rd w so sn sh) (hs : Sl so sn sc) :
    Calls Tryz.prog 221 #[.agg #[.slice so sn sc, .slice ao an ac]] w fun e w' => ∃ o c, e = .returned (.slice o (sn - 1) c) ∧ Ft 3 w' w.heap.size o (sn - 1) c (sh.drop 1) ∧ Below w.heap.size w w' := by
  have hb := box_below w (.cells #[.slice so sn sc, .slice ao an ac] 36)
  have hr : rankF sn (-1) = sn - 1 := by unfold rankF; rw [if_neg (by omega)]; omega
  have hl := h.len
  have hd : sh.drop (sn - (sn - 1)) = sh.drop 1 := by
    by_cases h0 : sn = 0
    · subst h0
      obtain rfl : sh = [] := List.eq_nil_of_length_eq_zero hl
      rfl
    · rw [show sn - (sn - 1) = 1 by omega]
  have sp := split_any so sn sc sh (-1) _ (h.below hb (Nat.le_refl _)) hs (by omega) (by omega)
  rw [hr, hd] at sp
  clear hr hd hl
  go_enter Tryz.func221, Tryz.ntmps221
  go_wp2_with (go_at_call 33; refine sp.mono ?_; rintro e w1 ⟨o1, c1, o2, c2, rfl, f1, f2, _, hb1⟩)
  go_ret
  exact ⟨_, _, rfl, (Fr.ft f2).mono (by simp), hb.trans (hb1.mono (by simp))⟩

/-- A copy into a row of one's own, when it is run, of either kind of number. -/
theorem Ty.one {s e : TypeId} (ty : Ty s e) : (Tryz.prog.info? e).map (·.size) = some 1 := by
  obtain ⟨i0, hi, hz0, hz1, hz2⟩ := info_parts ty.info
  rw [hi]; simp [hz1]
/-- A row that holds these numbers at its head. -/
theorem Ft.row {e : TypeId} {w : World} {B g n cap : Nat} {zs : List Int} {cur : List Value} (hg : w.heap[g]? = some (.cells cur.toArray e (0, 0))) (hB : B ≤ g) (hl : zs.length = n) (hr : n * 8 ≤ 140737488351232) (hn : ∀ k, k < n → -9223372036854775808 ≤ nth zs k ∧ nth zs k ≤ 9223372036854775807)
    (hnc : n ≤ cap) (hcm : cap ≤ maxLen) (hcl : cur.length = cap) (ht : cur.take n = zs.map (Value.int .i64)) : Ft e w B (some ⟨g, 0, none⟩) n cap zs := by
  obtain ⟨ao, cap', ee, hf⟩ := Ft.mk' (e := e) (w := w) (B := B) (v := .slice (some ⟨g, 0, none⟩) n cap) hl hr hn ⟨by simp [hl], .inr ⟨g, cap, cur.toArray, rfl, hB, hg, hnc, hcm, by simp [hcl], by simpa using ht⟩⟩
  cases ee
  exact hf
end Go.Proofs.YtelcagfaflpolaaGreat





namespace Go.Proofs.YtelcagfaflpolaaGreat

open Go.RowKit

set_option linter.unusedVariables false

/-- A box of one number, as a list. -/
theorem one_rd {w : World} {vb : Nat} {n : Int} (hv : w.heap[vb]? = some (.cells #[.int .i64 n] 3 (0, 0))) (h1 : -9223372036854775808 ≤ n) (h2 : n ≤ 9223372036854775807) : Rd w (some ⟨vb, 0, none⟩) 1 [n] := by
  refine ⟨rfl, by omega, fun k hk => ?_, fun _ => ⟨vb, 0, rfl, (Array.getElem?_eq_some_iff.1 hv).1, fun k hk => ?_⟩⟩
  · obtain rfl : k = 0 := by omega
    exact ⟨h1, h2⟩
  · obtain rfl : k = 0 := by omega
    exact (cell_of_row w vb 0 _ _ (0, 0) hv).trans rfl
theorem one_sl (vb : Nat) : Sl (some ⟨vb, 0, none⟩) 1 1 := ⟨fun e => (by cases e), Nat.le_refl _, by omega⟩

set_option maxHeartbeats 2000000 in
theorem insert0_end (so : Option Addr) (c : Nat) (n : Int) (vb B : Nat) (w : World) (f : Ft 3 w B so 0 c []) (hv : w.heap[vb]? = some (.cells #[.int .i64 n] 3 (0, 0))) (hB : B ≤ w.heap.size) (h1 : -9223372036854775808 ≤ n) (h2 : n ≤ 9223372036854775807) :
    Calls Tryz.prog 222 #[.slice so 0 c, .int .i64 0, .slice (some ⟨vb, 0, none⟩) 1 1] w fun e w' => ∃ co c', e = .returned (.slice co 1 c') ∧ Ft 3 w' B co 1 c' [n] ∧ Below B w w' := by
  have rv := one_rd hv h1 h2
  have sv := one_sl vb
  have hm := f.sl.max
  rcases f.own.2 with ⟨e, _⟩ | ⟨g, c', cur, e, _⟩
  · cases e
    go_enter Tryz.func222, Tryz.ntmps222
    go_wp2_with (at_builtin; refine wpList_joinT tyI rfl _ _ rfl B none (some ⟨vb, 0, none⟩) 0 0 1 1 [] [n] rfl rfl f rv sv (by omega) hB ?_; intro co c' w1 f1 b1)
    go_ret
    exact ⟨_, _, rfl, f1, b1⟩
  · cases e
    go_enter Tryz.func222, Tryz.ntmps222
    go_wp2_with (at_builtin; refine wpList_joinT tyI rfl _ _ rfl B (some ⟨g, 0, none⟩) (some ⟨vb, 0, none⟩) 0 c 1 1 [] [n] rfl rfl f rv sv (by omega) hB ?_; intro co c' w1 f1 b1)
    go_ret
    exact ⟨_, _, rfl, f1, b1⟩

/-- A copy into a row: that row alone is changed. -/
theorem run_spliceG {s e : TypeId} (ty : Ty s e) {w : World} (tt : TypeId) (dp sp : Option Addr) (dLen dCap sLen sCap g off : Nat) (cur : List Value) (hg : w.heap[g]? = some (.cells cur.toArray e (0, 0))) (cs : List Value) (hn : cs.length = Nat.min sLen dLen)
    (hpos : 0 < cs.length → dp = some ⟨g, off, none⟩ ∧ ∃ ad, sp = some ad ∧ ∀ j v, cs[j]? = some v → w.cell? (ad.add j) = some v) (hfit : off + cs.length ≤ cur.length) (h1 : ∀ v ∈ cs, v.oneCell' = true) :
    ∃ w', (Builtin.copy_ #[s, s] tt #[.slice dp dLen dCap, .slice sp sLen sCap]).run Tryz.prog w = .ok (goInt cs.length) w' ∧ w'.heap[g]? = some (.cells (splice cur off cs).toArray e (0, 0)) ∧ w.grownBy w' (some g) := by
  by_cases h0 : cs.length = 0
  · obtain rfl : cs = [] := List.eq_nil_of_length_eq_zero h0
    exact ⟨w, run_copy_none w _ _ tt e dp sp dLen dCap sLen sCap ty.und ty.one (by simpa using hn.symm), by simpa [splice] using hg, World.grownBy.refl _ _⟩
  · obtain ⟨rfl, ad, rfl, hsrc⟩ := hpos (by omega)
    exact ⟨_, run_copy_row (P := Tryz.prog) w _ _ tt e g off dLen dCap ad sLen sCap cur.toArray e cs ty.und ty.one hg hn hsrc (by simpa using hfit) h1, by simpa [splice] using setRow_heap w g _ _ e _ hg,
      ⟨rfl, rfl, rfl, by simp, fun k _ hk => setRow_other w g k _ (fun e => hk (by rw [e]))⟩⟩
theorem wp_spliceG {s e : TypeId} (ty : Ty s e) {w : World} {o : Oper} {a : Act} {K : Act → World → Prop} {Q : Exit → Act → World → Prop} (d x : Operand) (ho : o.op = .call { callee := .builtin .copy, args := #[d, x], argTypes := #[s, s] })
    (dp sp : Option Addr) (dLen dCap sLen sCap : Nat) (hd : a.eval d = .slice dp dLen dCap) (hs : a.eval x = .slice sp sLen sCap) (g off : Nat) (cur : List Value) (hg : w.heap[g]? = some (.cells cur.toArray e (0, 0))) (cs : List Value) (hn : cs.length = Nat.min sLen dLen)
    (hpos : 0 < cs.length → dp = some ⟨g, off, none⟩ ∧ ∃ ad, sp = some ad ∧ ∀ j v, cs[j]? = some v → w.cell? (ad.add j) = some v) (hfit : off + cs.length ≤ cur.length) (h1 : ∀ v ∈ cs, v.oneCell' = true)
    (h : ∀ w', Hid (w'.heap[g]? = some (.cells (splice cur off cs).toArray e (0, 0))) → w.grownBy w' (some g) → K (a.put o.dst (goInt cs.length)) w') : o.wp Tryz.prog a w K Q := by
  obtain ⟨w', hr, h2, h3⟩ := run_spliceG ty o.type dp sp dLen dCap sLen sCap g off cur hg cs hn hpos hfit h1
  unfold Oper.wp execOp
  simp only [ho, resolve, invoke, builtin, Sem.run_bind, Sem.run_pure, Result.andThen_ok, List.map_toArray, List.map_cons, List.map_nil, hd, hs, hr]
  exact h w' h2 h3
theorem step_spliceG {s e : TypeId} (ty : Ty s e) {w : World} {ops : Array Oper} {o : Oper} {a : Act} {K : Act → World → Prop} {Q : Exit → Act → World → Prop} {E : Prop} (hgd : o.guard = none) (d x : Operand) (ho : o.op = .call { callee := .builtin .copy, args := #[d, x], argTypes := #[s, s] })
    (dp sp : Option Addr) (dLen dCap sLen sCap : Nat) (hd : a.eval d = .slice dp dLen dCap) (hs : a.eval x = .slice sp sLen sCap) (g off : Nat) (cur : List Value) (hg : w.heap[g]? = some (.cells cur.toArray e (0, 0))) (cs : List Value) (hn : cs.length = Nat.min sLen dLen)
    (hpos : 0 < cs.length → dp = some ⟨g, off, none⟩ ∧ ∃ ad, sp = some ad ∧ ∀ j v, cs[j]? = some v → w.cell? (ad.add j) = some v) (hfit : off + cs.length ≤ cur.length) (h1 : ∀ v ∈ cs, v.oneCell' = true)
    (h : ∀ w', Hid (w'.heap[g]? = some (.cells (splice cur off cs).toArray e (0, 0))) → w.grownBy w' (some g) → K (a.put o.dst (goInt cs.length)) w') : if Region.wanted o (yielded ops a.tmps) = true then Oper.wp Tryz.prog o a w K Q else E := by
  have hw : Region.wanted o (yielded ops a.tmps) = true := by simp [Region.wanted, hgd]
  rw [if_pos hw]
  exact wp_spliceG ty d x ho dp sp dLen dCap sLen sCap hd hs g off cur hg cs hn hpos hfit h1 h

theorem take_splices {cur zs : List Value} {v : Value} {k : Nat} (hl : k + 1 ≤ cur.length) (hz : zs.length = k) : (splice (splice cur 1 zs) 0 [v]).take (k + 1) = v :: zs := by
  unfold splice
  cases cur with
  | nil => simp at hl
  | cons x r =>
    simp at hl
    simp [hz]
theorem take_splices' {cur zs : List Value} {v : Value} {k : Nat} (hl : k + 1 ≤ cur.length) (hz : zs.length = k) : (splice (splice cur 0 [v]) 1 zs).take (k + 1) = v :: zs := by
  unfold splice
  cases cur with
  | nil => simp at hl
  | cons x r =>
    simp at hl
    simp [hz]
theorem nth_cons (n : Int) (zs : List Int) {w : World} {ao : Option Addr} {k : Nat} (h : Rd w ao k zs) (h1 : -9223372036854775808 ≤ n) (h2 : n ≤ 9223372036854775807) : ∀ j, j < k + 1 → -9223372036854775808 ≤ nth (n :: zs) j ∧ nth (n :: zs) j ≤ 9223372036854775807
  | 0, _ => ⟨h1, h2⟩
  | j + 1, hj => h.num j (by omega)

set_option maxHeartbeats 4000000 in
set_option maxRecDepth 20000 in
theorem insert0_room (g k c : Nat) (zs : List Int) (n : Int) (vb B : Nat) (w : World) (f : Ft 3 w B (some ⟨g, 0, none⟩) k c zs) (hv : w.heap[vb]? = some (.cells #[.int .i64 n] 3 (0, 0))) (hne : g ≠ vb) (hk0 : 0 < k) (hk : k ≤ 4096) (hc : k + 1 ≤ c) (hB : B ≤ w.heap.size) (h1 : -9223372036854775808 ≤ n) (h2 : n ≤ 9223372036854775807) :
    Calls Tryz.prog 222 #[.slice (some ⟨g, 0, none⟩) k c, .int .i64 0, .slice (some ⟨vb, 0, none⟩) 1 1] w fun e w' => ∃ co c', e = .returned (.slice co (k + 1) c') ∧ Ft 3 w' B co (k + 1) c' (n :: zs) ∧ Below B w w' := by
  have hm := f.sl.max
  have hl := f.rd.len
  have rd := f.rd
  rcases f.own.2 with ⟨e, _⟩ | ⟨g', c', cur, e, hBg, hg, hnc, hcm, hcs, ht⟩
  · cases e
  cases e
  obtain ⟨cl, rfl⟩ : ∃ cl : List Value, cur = cl.toArray := ⟨cur.toList, by simp⟩
  have hcl : cl.length = c := by simpa using hcs
  have ht' : cl.take k = zs.map (Value.int .i64) := by simpa using ht
  have hov : ∀ lb cb, (callFunc 241 #[.slice (some ⟨vb, 0, none⟩) 1 1, .slice (some ⟨g, 1, none⟩) lb cb]).run Tryz.prog w = .ok (.value (.bool false)) w := fun lb cb => by
    have hsa : w.shape? vb = some (3, 1) := by unfold World.shape?; rw [hv]; rfl
    have hsb : w.shape? g = some (3, c) := by unfold World.shape?; rw [hg]; simp [hcl]
    have hfr : ∀ o, w.frozen? ⟨vb, o, none⟩ = false := fun o => frozen_of_row w vb o _ _ hv
    rw [run_callFunc_extern Tryz.func241 (by kernel_rfl) (by kernel_rfl) (by kernel_rfl) (e := Extern.SlicesOverlaps.overlaps #[33, 33] #[4]) (by kernel_rfl),
      Lib.run_overlaps_apart w 33 4 3 Tryz.underlying33 1 (fun w => by obtain ⟨i0, hi, _, hz1, _⟩ := info_parts tyI.info; simp [sizeOf, typeInfo, hi, hz1]) ⟨vb, 0, none⟩ ⟨g, 1, none⟩ 1 1 lb cb (fun e => hne e.symm) _ _ _ _ hsa hsb (by omega) (hfr 0) (hfr 1)]
    rfl
  have t0 : ((0 : Int) == (k : Int)) = false := by simp; omega
  have t1 : decide ((c : Int) < (k : Int) + 1) = false := by simp; omega
  have t2 : (k : Int) + 1 ≤ (c : Int) := by omega
  have w1 : IntKind.i64.wrap ((k : Int) + 1) = (k : Int) + 1 := wrapIn _ (by omega)
  have hwg : ∀ W : World, W.heap[g]? = w.heap[g]? → ∀ j v, (zs.map (Value.int .i64))[j]? = some v → W.cell? ((⟨g, 0, none⟩ : Addr).add j) = some v := fun W hW j v hj => by
    rw [add_at, Nat.zero_add, cell_of_row W g j _ _ (0, 0) (hW.trans hg)]
    have : j < k := by have := (List.getElem?_eq_some_iff.1 hj).1; simpa [hl] using this
    rw [← ht', List.getElem?_take_of_lt this] at hj
    simpa using hj
  have hvv : w.cell? ⟨vb, 0, none⟩ = some (.int .i64 n) := (cell_of_row w vb 0 _ _ (0, 0) hv).trans rfl
  have hvl := (Array.getElem?_eq_some_iff.1 hv).1
  have w11 : IntKind.i64.wrap 1 = 1 := wrapIn _ (by omega)
  have c1 : ¬ c = 1 := by omega
  have c2 : (1 : Int) ≤ (k : Int) + 1 := by omega
  have c3 : ¬ c = 0 := by omega
  have c4 : (0 : Int) ≤ (k : Int) + 1 := by omega
  have hmin : (zs.map (Value.int .i64)).length = Nat.min (k + 1) k := by rw [List.length_map, hl]; exact (Nat.min_eq_right (by omega)).symm
  have hwd : ∀ j v, (zs.map (Value.int .i64))[j]? = some v → w.drew.cell? ((⟨g, 0, none⟩ : Addr).add j) = some v := fun j v hj => hwg w rfl j v hj
  clear ht hcs hwg
  go_enter Tryz.func222, Tryz.ntmps222
  go_wp2_with (simp only [hov])
  go_region_law (refine step_spliceG tyI rfl (.tmp 73) (.tmp 76) rfl (some ⟨g, 1, none⟩) (some ⟨g, 0, none⟩) k (c - 1) (k + 1) c (by simp [Act.eval, Act.put]) (by simp [Act.eval, Act.put]) g 1 cl hg (zs.map (Value.int .i64)) hmin (fun _ => ⟨rfl, ⟨g, 0, none⟩, rfl, hwd⟩) (by rw [List.length_map, hl, hcl]; omega) (ints_one zs) ?_; intro w2 HG2 hb2)
  have v2 : w2.cell? ⟨vb, 0, none⟩ = some (.int .i64 n) := hb2.cell (w := w.drew) hvv (fun e => hne (by cases e; rfl))
  have v3 : Hid (∀ j v, [Value.int .i64 n][j]? = some v → w2.cell? ((⟨vb, 0, none⟩ : Addr).add j) = some v) := fun j v hj => by
    obtain rfl : j = 0 := by have := (List.getElem?_eq_some_iff.1 hj).1; simpa using this
    cases hj; exact v2
  have l1 : Hid ((splice cl 1 (zs.map (Value.int .i64))).length = c) := by show _ = _; rw [length_splice _ _ _ (by rw [List.length_map, hl, hcl]; omega), hcl]
  have m1 : Hid ([Value.int .i64 n].length = Nat.min 1 (k + 1)) := by show 1 = Nat.min 1 (k + 1); exact (Nat.min_eq_left (by omega)).symm
  have s2 := hb2.size
  have b2 : Below B w w2 := (Below.refl B w).drew.grown hb2 (by simpa using hB) (fun k e => by cases e; exact hBg)
  clear hov hwd hmin hb2 t0 t1 t2 hvv hv f ht' hg v2
  obtain ⟨w3, hrun, hg3, hb3⟩ := run_spliceG tyI 3 (some ⟨g, 0, none⟩) (some ⟨vb, 0, none⟩) (k + 1) c 1 1 g 0 _ HG2.out [.int .i64 n] m1.out (fun _ => ⟨rfl, ⟨vb, 0, none⟩, rfl, v3.out⟩) (by rw [l1.out]; show 0 + 1 ≤ c; omega) (fun v hv => by rw [List.mem_singleton.1 hv]; rfl)
  have HG3 : Hid (w3.heap[g]? = some (.cells (splice (splice cl 1 (zs.map (Value.int .i64))) 0 [.int .i64 n]).toArray 3 (0, 0))) := hg3
  clear hg3 HG2
  go_wp2
  go_ret
  refine ⟨_, _, rfl, Ft.row HG3.out hBg (by simp [hl]) (by omega) (nth_cons n zs rd h1 h2) hc hcm ?_ ?_, ?_⟩
  · rw [length_splice _ _ _ (by rw [l1.out]; show 0 + 1 ≤ c; omega), l1.out]
  · rw [take_splices (by rw [hcl]; exact hc) (by rw [List.length_map, hl])]; rfl
  · exact b2.grown hb3 (by simp at s2; omega) (fun k e => by cases e; exact hBg)

theorem arr_list (x : Array Value) : ∃ l : List Value, x = l.toArray := ⟨x.toList, by simp⟩
/-- Zeros behind nothing, where there is no room: a new row. -/
theorem run_zeros (w : World) (ty : TypeId) (g c m : Nat) (hm0 : 0 < m) (hm : m ≤ 5000) (hc : c < m) :
    ∃ cap cur w1, (Builtin.append_ #[33, 3] ty #[.slice (some ⟨g, 0, none⟩) 0 c, .int .i64 (m : Nat)]).run Tryz.prog w = .ok (.slice (some ⟨w.heap.size, 0, none⟩) m cap) w1 ∧ w1.heap[w.heap.size]? = some (.cells (cur : List Value).toArray 3 (0, 0)) ∧ cur.length = cap ∧ m ≤ cap ∧ cap ≤ maxLen ∧ Below w.heap.size w w1 := by
  obtain ⟨i0, hi, hz0, hz1, hz2⟩ := info_parts tyI.info
  have hr := Lib.run_append_grow_zeros (P := Tryz.prog) w 33 3 ty 3 i0 (.int .i64 0) .i64 .i64 Tryz.underlying33 Tryz.underlying3 hi hz0 (some ⟨g, 0, none⟩) 0 c [] (run_firstCells_some _ _ 0 ⟨g, 0, none⟩ 0 c [] (by simp) (fun j v h => by simp at h)) m hm0 (by omega) (by omega) (by omega) (by rw [hz2]; omega) (by
    rw [hz2]
    have := nextslicecap_le (need := 0 + m) (old := c) (by omega)
    omega)
  rw [Nat.zero_add] at hr
  have g1 := grownCap_ge w m c 3
  have g2 := grownCap_le_maxLen w m c 3 (by unfold maxLen; omega)
  generalize grownCap w m c 3 = cap at *
  have hn := allocNew w.drew (.cells (#[] ++ Builtin.zeroCells (Value.int IntKind.i64 0).cells m ++ Builtin.zeroCells (Value.int IntKind.i64 0).cells (cap - m)) 3)
  obtain ⟨cur, hcur⟩ : ∃ cur : List Value, #[] ++ Builtin.zeroCells (Value.int IntKind.i64 0).cells m ++ Builtin.zeroCells (Value.int IntKind.i64 0).cells (cap - m) = cur.toArray := arr_list _
  have hl : (#[] ++ Builtin.zeroCells (Value.int IntKind.i64 0).cells m ++ Builtin.zeroCells (Value.int IntKind.i64 0).cells (cap - m)).size = cap := by
    simp [Builtin.zeroCells, Value.cells]
    omega
  rw [hcur] at hr hn hl
  exact ⟨cap, cur, _, hr, hn, by simpa using hl, g1, g2, (Below.refl _ w).drew.alloc (by simp) _⟩
end Go.Proofs.YtelcagfaflpolaaGreat


namespace Go.Proofs.YtelcagfaflpolaaGreat

open Go.RowKit

set_option linter.unusedVariables false

set_option maxHeartbeats 4000000 in
set_option maxRecDepth 20000 in
theorem insert0_grow (g k c : Nat) (zs : List Int) (n : Int) (vb B : Nat) (w : World) (f : Ft 3 w B (some ⟨g, 0, none⟩) k c zs) (hv : w.heap[vb]? = some (.cells #[.int .i64 n] 3 (0, 0))) (hk0 : 0 < k) (hk : k ≤ 4096) (hc : c < k + 1) (hB : B ≤ w.heap.size) (h1 : -9223372036854775808 ≤ n) (h2 : n ≤ 9223372036854775807) :
    Calls Tryz.prog 222 #[.slice (some ⟨g, 0, none⟩) k c, .int .i64 0, .slice (some ⟨vb, 0, none⟩) 1 1] w fun e w' => ∃ co c', e = .returned (.slice co (k + 1) c') ∧ Ft 3 w' B co (k + 1) c' (n :: zs) ∧ Below B w w' := by
  have hm := f.sl.max
  have hnc := f.sl.le
  have rd := f.rd
  obtain ⟨cap, cur, w1, hz, hg1, hcl, hcap, hcm, hb1⟩ := run_zeros w 33 g c (k + 1) (by omega) (by omega) hc
  have hl := f.rd.len
  have hvv : w.cell? ⟨vb, 0, none⟩ = some (.int .i64 n) := (cell_of_row w vb 0 _ _ (0, 0) hv).trans rfl
  have hvl := (Array.getElem?_eq_some_iff.1 hv).1
  have v3 : Hid (∀ j v, [Value.int .i64 n][j]? = some v → w1.cell? ((⟨vb, 0, none⟩ : Addr).add j) = some v) := fun j v hj => by
    obtain rfl : j = 0 := by have := (List.getElem?_eq_some_iff.1 hj).1; simpa using this
    cases hj; exact (hb1.cell (p := ⟨vb, 0, none⟩) hvl).trans hvv
  have m1 : Hid ([Value.int .i64 n].length = Nat.min 1 (k + 1)) := by show 1 = Nat.min 1 (k + 1); exact (Nat.min_eq_left (by omega)).symm
  obtain ⟨w2, hrun, hg2, hb2⟩ := run_spliceG tyI 3 (some ⟨w.heap.size, 0, none⟩) (some ⟨vb, 0, none⟩) (k + 1) cap 1 1 w.heap.size 0 _ hg1 [.int .i64 n] m1.out (fun _ => ⟨rfl, ⟨vb, 0, none⟩, rfl, v3.out⟩) (by rw [hcl]; show 0 + 1 ≤ cap; omega) (fun v hv => by rw [List.mem_singleton.1 hv]; rfl)
  have r2 : Rd w2 (some ⟨g, 0, none⟩) k zs := (rd.below hb1 (Nat.le_refl _)).keep1 hb2 (fun b off e e' => by
    have := (f.at b off e).2
    cases e'; omega)
  have l2 : Hid ((splice cur 0 [Value.int .i64 n]).length = cap) := by show _ = _; rw [length_splice _ _ _ (by rw [hcl]; show 0 + 1 ≤ cap; omega), hcl]
  have HG2 : Hid (w2.heap[w.heap.size]? = some (.cells (splice cur 0 [Value.int .i64 n]).toArray 3 (0, 0))) := hg2
  have hwd : Hid (∀ j v, (zs.map (Value.int .i64))[j]? = some v → w2.drew.cell? ((⟨g, 0, none⟩ : Addr).add j) = some v) := fun j v hj => by
    have hj' : j < k := by have := (List.getElem?_eq_some_iff.1 hj).1; simpa [hl] using this
    obtain ⟨b, off, e, _, hc'⟩ := r2.cells (by omega)
    cases e
    have := Rd.news hl hc' j v hj
    exact this
  have hmin : Hid ((zs.map (Value.int .i64)).length = Nat.min k k) := by show _ = _; rw [List.length_map, hl]; exact (Nat.min_eq_right (by omega)).symm
  have b2 : Below B w w2 := ((hb1.mono hB)).grown hb2 (by have := hb1.size; omega) (fun k e => by cases e; exact hB)
  have hs2 : w.heap.size + 1 ≤ w2.heap.size := by
    have := (Array.getElem?_eq_some_iff.1 hg2).1
    omega
  have HC : Hid (cur.length = cap) := hcl
  have HZ : Hid ((Builtin.append_ #[33, 3] 33 #[.slice (some ⟨g, 0, none⟩) 0 c, .int .i64 ((k : Int) + 1)]).run Tryz.prog w = .ok (.slice (some ⟨w.heap.size, 0, none⟩) (k + 1) cap) w1) := by show _ = _; simpa using hz
  have t0 : ((0 : Int) == (k : Int)) = false := by simp; omega
  have t1 : decide ((c : Int) < (k : Int) + 1) = true := by simp; omega
  have w1k : IntKind.i64.wrap ((k : Int) + 1) = (k : Int) + 1 := wrapIn _ (by omega)
  have w11 : IntKind.i64.wrap 1 = 1 := wrapIn _ (by omega)
  have c1 : ¬ cap = 1 := by omega
  have c2 : (1 : Int) ≤ (k : Int) + 1 := by omega
  have c3 : ¬ cap = 0 := by omega
  have c4 : (0 : Int) ≤ (k : Int) + 1 := by omega
  have c5 : (0 : Int) ≤ (k : Int) := by omega
  have c6 : ¬ c = 0 := by omega
  have hcm2 : cap ≤ 9223372036854775807 := by unfold maxLen at hcm; omega
  clear hz hg1 hcl hg2 hvv hv v3 m1 hb1 r2 hb2 f
  go_enter Tryz.func222, Tryz.ntmps222
  go_wp2_with (at_builtin; refine Lib.wpList_append_run _ rfl _ _ _ _ rfl _ _ rfl rfl _ _ HZ.out ?_)
  go_region_law (refine step_spliceG tyI rfl (.tmp 50) (.tmp 53) rfl (some ⟨w.heap.size, 1, none⟩) (some ⟨g, 0, none⟩) k (cap - 1) k c (by simp [Act.eval, Act.put]) (by simp [Act.eval, Act.put]) w.heap.size 1 _ HG2.out (zs.map (Value.int .i64)) hmin.out (fun _ => ⟨rfl, ⟨g, 0, none⟩, rfl, hwd.out⟩) (by rw [List.length_map, hl, l2.out]; omega) (ints_one zs) ?_; intro w3 HG3 hb3)
  clear hrun HZ
  go_wp2
  go_ret
  refine ⟨_, _, rfl, Ft.row HG3.out hB (by simp [hl]) (by omega) (nth_cons n zs rd h1 h2) hcap hcm ?_ ?_, ?_⟩
  · rw [length_splice _ _ _ (by rw [List.length_map, hl, l2.out]; omega), l2.out]
  · rw [take_splices' (by rw [HC.out]; exact hcap) (by rw [List.length_map, hl])]; rfl
  · exact b2.drew.grown hb3 (by simp; omega) (fun k e => by cases e; exact hB)

theorem insert0_any (so : Option Addr) (k c : Nat) (zs : List Int) (n : Int) (vb B : Nat) (w : World) (f : Ft 3 w B so k c zs) (hv : w.heap[vb]? = some (.cells #[.int .i64 n] 3 (0, 0))) (hne : ∀ b off, so = some ⟨b, off, none⟩ → b ≠ vb) (hk : k ≤ 4096) (hB : B ≤ w.heap.size) (h1 : -9223372036854775808 ≤ n) (h2 : n ≤ 9223372036854775807) :
    Calls Tryz.prog 222 #[.slice so k c, .int .i64 0, .slice (some ⟨vb, 0, none⟩) 1 1] w fun e w' => ∃ co c', e = .returned (.slice co (k + 1) c') ∧ Ft 3 w' B co (k + 1) c' (n :: zs) ∧ Below B w w' := by
  by_cases h0 : k = 0
  · subst h0
    obtain rfl : zs = [] := List.eq_nil_of_length_eq_zero f.rd.len
    exact insert0_end so c n vb B w f hv hB h1 h2
  · rcases f.own.2 with ⟨e, h00⟩ | ⟨g, c', cur, e, _⟩
    · exact absurd h00 h0
    · cases e
      by_cases hc : k + 1 ≤ c
      · exact insert0_room g k c zs n vb B w f hv (hne g 0 rfl) (by omega) hk hc hB h1 h2
      · exact insert0_grow g k c zs n vb B w f hv (by omega) hk (by omega) hB h1 h2
end Go.Proofs.YtelcagfaflpolaaGreat



namespace Go.Proofs.YtelcagfaflpolaaGreat

open Go.RowKit

set_option linter.unusedVariables false

theorem pz_foldl (l : List Int) : ∀ a : Int, l.foldl (fun p z => if z = 0 then p else p * z) a = a * pz l := by
  induction l with
  | nil => intro a; simp [pz]
  | cons z l ih =>
    intro a
    simp only [pz, List.foldl_cons]
    rw [ih, ih]
    split
    · simp
    · rw [Int.one_mul, Int.mul_assoc]
theorem pz_cons (z : Int) (l : List Int) : pz (z :: l) = (if z = 0 then 1 else z) * pz l := by
  conv => lhs; unfold pz; rw [List.foldl_cons, pz_foldl]
  simp
theorem mayF_tail {sh : List Int} (h : mayF sh = 0) : mayF (sh.drop 1) = 0 := by
  obtain ⟨h1, h2, h3⟩ := mayF_zero h
  cases sh with
  | nil => exact h
  | cons z l =>
    have hz : 0 ≤ z := h1 0 (by simp)
    have hl : ∀ k, k < l.length → 0 ≤ nth l k := fun k hk => by have := h1 (k + 1) (by simp; omega); simpa [nth] using this
    have hp := pz_pos (l := l) l.length (Nat.le_refl _) hl
    rw [List.take_length] at hp
    refine mayF_ok (by simpa using hl) (by simp at h2 ⊢; omega) ?_
    rw [pz_cons] at h3
    simp only [List.drop_succ_cons, List.drop_zero]
    split at h3
    · omega
    · have : 1 ≤ z := by omega
      have := Int.mul_le_mul_of_nonneg_right this (show 0 ≤ pz l by omega)
      omega
end Go.Proofs.YtelcagfaflpolaaGreat



namespace Go.Proofs.YtelcagfaflpolaaGreat

open Go.RowKit

set_option linter.unusedVariables false

/-- A part of a slice, wherever it lies. -/
theorem Rd.sub {w : World} {ao po : Option Addr} {n ac lo hi : Nat} {zs : List Int} (h : Rd w ao n zs) (hs : Sl ao n ac) (hpo : (if ac = lo then ao else Option.map (fun x => x.add lo) ao) = po) (h1 : lo ≤ hi) (h2 : hi ≤ n) : Rd w po (hi - lo) ((zs.drop lo).take (hi - lo)) ∧ Sl po (hi - lo) (ac - lo) := by
  have hle := hs.le
  have hmx := hs.max
  subst hpo
  by_cases c : ac = lo
  · rw [if_pos c]
    have e : hi - lo = 0 := by omega
    rw [e, List.take_zero]
    exact ⟨Rd.empty _ _, fun e' => ⟨rfl, by omega⟩, by omega, by omega⟩
  · rw [if_neg c]
    cases ao with
    | none => have := hs.nil rfl; omega
    | some a =>
      refine ⟨?_, fun e => (by simp at e), by omega, by omega⟩
      by_cases h0 : hi - lo = 0
      · rw [h0, List.take_zero]; exact Rd.empty _ _
      · obtain ⟨b, off, e, _, _⟩ := h.cells (by omega)
        cases e
        have := h.part (lo := lo) (hi := hi) (z := hi - lo) (by omega) h2
        rw [Option.map_some, add_at]
        exact this

/-- Which error Part tells, the shape and the atoms. -/
def prtE (sh at' : List Int) (f n : Int) : Int := if mayA sh at' ≠ 0 then 1 else if f < 0 ∨ n < 0 ∨ tal sh - f < n then 13 else 0
def isz (sh : List Int) : Nat := (pr (sh.drop 1)).toNat
def prtS (sh at' : List Int) (f n : Int) : List Int := if prtE sh at' f n = 0 then n :: sh.drop 1 else []
def prtA (sh at' : List Int) (f n : Int) : List Int := if prtE sh at' f n = 0 then (at'.drop (f.toNat * isz sh)).take (n.toNat * isz sh) else []

theorem isz_all {sh at' : List Int} (h : mayA sh at' = 0) : tal sh * pr (sh.drop 1) = at'.length ∧ 0 ≤ pr (sh.drop 1) ∧ pr (sh.drop 1) ≤ 4096 ∧ mayF (sh.drop 1) = 0 ∧ 0 ≤ tal sh ∧ tal sh ≤ 4096 ∧ at'.length ≤ 4096 := by
  obtain ⟨h0, h1⟩ := mayA_zero h
  have t := mayF_tail h0
  have p := pr_small t (sh.drop 1).length (Nat.le_refl _)
  rw [List.take_length] at p
  have q := pr_small h0 sh.length (Nat.le_refl _)
  rw [List.take_length] at q
  have b := tal_bd h0
  refine ⟨?_, p.1, p.2, t, b.1, b.2, by omega⟩
  rw [h1]
  cases sh with
  | nil => simp [tal, pr]
  | cons x r => rw [pr_cons]; simp [tal, nth]

set_option maxHeartbeats 4000000 in
set_option maxRecDepth 20000 in
theorem part_ok (so ao : Option Addr) (sn sc an ac : Nat) (sh at' : List Int) (fr m : Nat) (w : World) (h : Rd w so sn sh) (hs : Sl so sn sc) (g : Rd w ao an at') (gs : Sl ao an ac) (h0 : mayA sh at' = 0) (hfm : (fr : Int) + m ≤ tal sh) :
    Calls Tryz.prog 186 #[.agg #[.slice so sn sc, .slice ao an ac], .int .i64 (fr : Nat), .int .i64 (m : Nat)] w fun e w' => ∃ o1 n1 c1 o2 n2 c2, e = .returned (.tuple #[.agg #[.slice o1 n1 c1, .slice o2 n2 c2], .int .i64 0]) ∧ Ft 3 w' w.heap.size o1 n1 c1 ((m : Int) :: sh.drop 1) ∧ Ft 2 w' w.heap.size o2 n2 c2 ((at'.drop (fr * isz sh)).take (m * isz sh)) ∧ Below w.heap.size w w' := by
  have hsl := fun h0 => h.lt h0
  have hal := fun h0 => g.lt h0
  obtain ⟨a1, a2, a3, a4, a5, a6, a7⟩ := isz_all h0
  have gl := g.len
  have hl := h.len
  have hsn : sn ≤ 8 := by rw [← hl]; exact (mayF_zero (mayA_zero h0).1).2.1
  have I0 := it_start w so sn sc ao an ac sh at' h g
  have hm := mayA_any so ao sn sc an ac sh at' _ I0.s I0.a
  have hi := fun W (x : Rd W so sn sh) (y : Rd W ao an at') => items_any so ao sn sc an ac sh at' W x y
  have hit := fun W (x : Rd W so sn sh) => item4_any so ao sn sc an ac sh W x hs
  have hzz := fun W o c (x : Rd W o (sn - 1) (sh.drop 1)) => size_any o (sn - 1) c (sh.drop 1) W x
  rw [h0] at hm
  have hie : itm sh at' = tal sh := if_pos h0
  rw [hie] at hi
  rw [sizeF_ok a4, a4] at hzz
  obtain ⟨N, hN⟩ : ∃ N : Nat, tal sh = N := ⟨(tal sh).toNat, by omega⟩
  obtain ⟨z, hz⟩ : ∃ z : Nat, pr (sh.drop 1) = z := ⟨(pr (sh.drop 1)).toNat, by omega⟩
  have hz' : isz sh = z := by unfold isz; rw [hz]; simp
  rw [hz']
  rw [hN] at hi hfm a1 a5 a6
  rw [hz] at hzz a1 a2 a3
  have HNz : N * z = an := by rw [← gl]; exact_mod_cast a1
  have hle : (fr + m) * z ≤ an := by rw [← HNz]; exact Nat.mul_le_mul_right _ (by omega)
  obtain ⟨lo, hlo⟩ : ∃ lo : Nat, fr * z = lo := ⟨_, rfl⟩
  obtain ⟨hi', hhi⟩ : ∃ hi : Nat, (fr + m) * z = hi := ⟨_, rfl⟩
  have m1 : ((fr : Int) * (z : Int)) = (lo : Int) := by rw [← hlo]; simp
  have m2 : (((fr : Int) + (m : Int)) * (z : Int)) = (hi' : Int) := by rw [← hhi]; simp
  have m3 : m * z = hi' - lo := by rw [← hlo, ← hhi, Nat.add_mul]; omega
  rw [hhi] at hle
  rw [hlo, m3]
  have hlh : lo ≤ hi' := by rw [← hlo, ← hhi]; exact Nat.mul_le_mul_right _ (by omega)
  have gle := gs.le
  have gmx := gs.max
  have b1 : (lo : Int) ≤ (hi' : Int) := by omega
  have b2 : (hi' : Int) ≤ (ac : Int) := by omega
  have b0 : (0 : Int) ≤ (lo : Int) := by omega
  have t1 : decide ((fr : Int) < 0) = false := by simp
  have t2 : decide ((m : Int) < 0) = false := by simp
  have t3 : decide ((N : Int) - (fr : Int) < (m : Int)) = false := by simp; omega
  have w1 : IntKind.i64.wrap (lo : Int) = (lo : Int) := wrapIn _ (by omega)
  have w2 : IntKind.i64.wrap ((fr : Int) + (m : Int)) = (fr : Int) + (m : Int) := wrapIn _ (by omega)
  have w3 : IntKind.i64.wrap (hi' : Int) = (hi' : Int) := wrapIn _ (by omega)
  have w4 : IntKind.i64.wrap ((N : Int) - (fr : Int)) = (N : Int) - (fr : Int) := wrapIn _ (by omega)
  obtain ⟨po, hpo⟩ : ∃ po, (if ac = lo then ao else Option.map (fun x => x.add lo) ao) = po := ⟨_, rfl⟩
  have M9 : Hid ((m : Int) ≤ 9223372036854775807) := by show _ ≤ _; omega
  clear hlo hhi hz hz' hN h0 hie a1 a2 a3 a4 a5 a6 a7 HNz m3
  go_enter Tryz.func186, Tryz.ntmps186
  go_wp2_with (first
    | (go_at_call 13; refine hm.mono ?_; rintro e W1 ⟨rfl, h1⟩; have I1 := I0.below h1; obtain ⟨p0, p1, _, _, _, _⟩ := I1)
    | (go_at_call 182; refine (hi _ (I0.below h1).s (I0.below h1).a).mono ?_; rintro e W2 ⟨rfl, h2⟩; have I2 := (I0.below h1).below h2; obtain ⟨q0, q1, _, _, _, _⟩ := I2)
    | (go_at_call 221; refine (hit _ ((I0.below h1).below h2).s).mono ?_; rintro e W3 ⟨o3, c3, rfl, f3, h3⟩; have I3 := ((I0.below h1).below h2).below h3; obtain ⟨r0, r1, _, _, _, _⟩ := I3)
    | (go_at_call 22; refine (hzz _ _ _ f3.rd).mono ?_; rintro e W4 ⟨rfl, hw4⟩; rw [hw4]; clear hw4 W4))
  have U2 := ((I0.below h1).below h2).u
  have U3 := (((I0.below h1).below h2).below h3).u
  have hsz : w.heap.size + 1 < W2.heap.size := (Array.getElem?_eq_some_iff.1 ((I0.below h1).below h2).r).1
  have hs3 := h3.size
  have m9 : (m : Int) ≤ 9223372036854775807 := M9.out
  have k3 : Below W2.heap.size W2 (W3.alloc (.cells #[.int .i64 (m : Int)] 3)).drew := (h3.alloc hs3 _).drew
  have f3' := (f3.below (box_below W3 (.cells #[.int .i64 (m : Int)] 3)) (Nat.le_refl _)).below (Below.refl _ (W3.alloc (.cells #[.int .i64 (m : Int)] 3))).drew (Nat.le_refl _)
  have hv : (W3.alloc (.cells #[.int .i64 (m : Int)] 3)).drew.heap[W3.heap.size]? = _ := allocNew W3 (.cells #[.int .i64 (m : Int)] 3)
  have ins := insert0_any o3 (sn - 1) c3 (sh.drop 1) (m : Int) W3.heap.size W2.heap.size _ f3' hv (fun b off e => by have := (f3.at b off e).2; omega) (by omega) (by simp; omega) (by omega) m9
  clear I0 hm hi hit hzz p0 p1 q0 q1 r0 r1 hv f3'
  go_region_held3 (fun W => W.cell? ⟨w.heap.size, 0, none⟩ = some (.slice so sn sc) ∧ W.cell? ⟨w.heap.size, 1, none⟩ = some (.slice ao an ac) ∧ Iu w W so sn sc ao an ac sh at') (first | exact Iu.all (by assumption) | exact Iu.all (Iu.drew (by assumption)) | exact Iu.all ((Iu.drew (by assumption)).below (box_below _ _)) | exact Iu.all ((‹_ ∧ _ ∧ Iu w _ so sn sc ao an ac sh at'›).2.2.below (box_below _ _)) | exact Iu.all (Iu.set (by assumption) hsl hal _ _))
    (first
      | (go_at_call 222; (with_reducible refine ins.mono ?_); rintro e w4 ⟨o4, c4, rfl, f4, h4⟩; have k4 := k3.trans h4; have I4 := U2.below k4)
      | (go_at_call 35; (with_reducible refine (clone8_any _ _ _ _ _ (I4.a.sub gs hpo hlh hle).1 (I4.a.sub gs hpo hlh hle).2).mono ?_); rintro e w5 ⟨o5, c5, rfl, f5, h5⟩; have I5 := I4.below h5; obtain ⟨x5, y5, hr5⟩ := I5.r; obtain ⟨k0, k1, z0, z1⟩ := box2 hr5))
  go_wp2
  (try simp only [Exit.inBlock, Exit.then])
  refine bodyPost_ret (v := .tuple #[.agg #[.slice o4 (sn - 1 + 1) c4, .slice o5 (hi' - lo) c5], .int .i64 0]) (by rw [results_cell_tmp rfl]; go_simp) rfl ?_
  have s4 := k4.size
  have a4 := f4.at
  have a5 := f5.at
  have k := set2 w5 (w.heap.size + 1) 0 1 (.slice o4 (sn - 1 + 1) c4) (.slice o5 (hi' - lo) c5)
  refine ⟨o4, _, c4, o5, _, c5, rfl, ((f4.below h5 (Nat.le_refl _)).keep1 k (fun b off e => ?_)).mono (by omega), (f5.keep1 k (fun b off e => ?_)).mono (by omega), below_set2 _ _ _ _ I5.bel (by omega) (Nat.le_refl _)⟩
  · have := (a4 b off e).1; intro e'; cases e'; omega
  · have := (a5 b off e).1; intro e'; cases e'; omega

theorem prt_may {sh at' : List Int} {f n : Int} (h : mayA sh at' ≠ 0) : prtE sh at' f n = 1 ∧ prtS sh at' f n = [] ∧ prtA sh at' f n = [] := by
  have e : prtE sh at' f n = 1 := if_pos h
  exact ⟨e, by unfold prtS; rw [e]; rfl, by unfold prtA; rw [e]; rfl⟩
theorem prt_out {sh at' : List Int} {f n : Int} (h : mayA sh at' = 0) (k : f < 0 ∨ n < 0 ∨ tal sh - f < n) : prtE sh at' f n = 13 ∧ prtS sh at' f n = [] ∧ prtA sh at' f n = [] := by
  have e : prtE sh at' f n = 13 := by unfold prtE; rw [if_neg (by omega), if_pos k]
  exact ⟨e, by unfold prtS; rw [e]; rfl, by unfold prtA; rw [e]; rfl⟩
theorem prt_in {sh at' : List Int} {fr m : Nat} (h : mayA sh at' = 0) (k : (fr : Int) + m ≤ tal sh) : prtE sh at' fr m = 0 ∧ prtS sh at' fr m = (m : Int) :: sh.drop 1 ∧ prtA sh at' fr m = (at'.drop (fr * isz sh)).take (m * isz sh) := by
  have e : prtE sh at' fr m = 0 := by unfold prtE; rw [if_neg (by omega), if_neg (by omega)]
  exact ⟨e, by unfold prtS; rw [if_pos e], by unfold prtA; rw [if_pos e]; simp⟩

set_option maxHeartbeats 2000000 in
theorem part_may (so ao : Option Addr) (sn sc an ac : Nat) (sh at' : List Int) (f n : Int) (w : World) (h : Rd w so sn sh) (g : Rd w ao an at') (h0 : mayA sh at' ≠ 0) :
    Calls Tryz.prog 186 #[.agg #[.slice so sn sc, .slice ao an ac], .int .i64 f, .int .i64 n] w fun e w' => e = .returned (.tuple #[.agg #[.slice none 0 0, .slice none 0 0], .int .i64 1]) ∧ Below w.heap.size w w' := by
  have I0 := it_start w so sn sc ao an ac sh at' h g
  have hm := mayA_any so ao sn sc an ac sh at' _ I0.s I0.a
  have h0' : (mayA sh at' != 0) = true := by simpa using h0
  clear h0
  go_enter Tryz.func186, Tryz.ntmps186
  go_wp2_with (go_at_call 13; refine hm.mono ?_; rintro e W1 ⟨rfl, h1⟩; have I1 := I0.below h1; obtain ⟨p0, p1, pr1, _, _, pb⟩ := I1; obtain ⟨k0, k1, z0, z1⟩ := box2 pr1)
  (try simp only [Exit.inBlock, Exit.then])
  refine bodyPost_ret (v := .tuple #[.agg #[.slice none 0 0, .slice none 0 0], .int .i64 1]) (by rw [results_cell_tmp rfl]; go_simp) rfl ?_
  exact ⟨rfl, by first | exact pb | exact below_set2 _ _ _ _ pb (by omega) (Nat.le_refl _)⟩

set_option maxHeartbeats 4000000 in
theorem part_out (so ao : Option Addr) (sn sc an ac : Nat) (sh at' : List Int) (f n : Int) (w : World) (h : Rd w so sn sh) (g : Rd w ao an at') (h0 : mayA sh at' = 0) (f1 : -9223372036854775808 ≤ f) (f2 : f ≤ 9223372036854775807) (n1 : -9223372036854775808 ≤ n) (n2 : n ≤ 9223372036854775807) (k : f < 0 ∨ n < 0 ∨ tal sh - f < n) :
    Calls Tryz.prog 186 #[.agg #[.slice so sn sc, .slice ao an ac], .int .i64 f, .int .i64 n] w fun e w' => e = .returned (.tuple #[.agg #[.slice none 0 0, .slice none 0 0], .int .i64 13]) ∧ Below w.heap.size w w' := by
  have I0 := it_start w so sn sc ao an ac sh at' h g
  have hm := mayA_any so ao sn sc an ac sh at' _ I0.s I0.a
  have hi := fun W (x : Rd W so sn sh) (y : Rd W ao an at') => items_any so ao sn sc an ac sh at' W x y
  have hie : itm sh at' = tal sh := if_pos h0
  rw [hie] at hi
  have bd := tal_bd (mayA_zero h0).1
  rw [h0] at hm
  clear h0 hie
  generalize tal sh = N at *
  have hk : (decide (f < 0) = true) ∨ (decide (f < 0) = false ∧ decide (n < 0) = true) ∨ (decide (f < 0) = false ∧ decide (n < 0) = false ∧ decide (N - f < n) = true ∧ IntKind.i64.wrap (N - f) = N - f) := by
    by_cases c1 : f < 0
    · exact .inl (by simpa using c1)
    · by_cases c2 : n < 0
      · exact .inr (.inl ⟨by simpa using c1, by simpa using c2⟩)
      · exact .inr (.inr ⟨by simpa using c1, by simpa using c2, by simp; omega, wrapIn _ (by omega)⟩)
  clear k
  rcases hk with k1 | ⟨k1, k2⟩ | ⟨k1, k2, k3, k4⟩
  all_goals
    go_enter Tryz.func186, Tryz.ntmps186
    go_wp2_with (first
      | (go_at_call 13; refine hm.mono ?_; rintro e W1 ⟨rfl, h1⟩; have I1 := I0.below h1; obtain ⟨p0, p1, _, _, _, _⟩ := I1)
      | (go_at_call 182; refine (hi _ (I0.below h1).s (I0.below h1).a).mono ?_; rintro e W2 ⟨rfl, h2⟩; have I2 := (I0.below h1).below h2; obtain ⟨q0, q1, pr1, _, _, pb⟩ := I2; obtain ⟨kk0, kk1, z0, z1⟩ := box2 pr1))
    (try simp only [Exit.inBlock, Exit.then])
    refine bodyPost_ret (v := .tuple #[.agg #[.slice none 0 0, .slice none 0 0], .int .i64 13]) (by rw [results_cell_tmp rfl]; go_simp) rfl ?_
    exact ⟨rfl, by first | exact pb | exact below_set2 _ _ _ _ pb (by omega) (Nat.le_refl _)⟩

theorem part_any (so ao : Option Addr) (sn sc an ac : Nat) (sh at' : List Int) (f n : Int) (w : World) (h : Rd w so sn sh) (hs : Sl so sn sc) (g : Rd w ao an at') (gs : Sl ao an ac) (f1 : -9223372036854775808 ≤ f) (f2 : f ≤ 9223372036854775807) (n1 : -9223372036854775808 ≤ n) (n2 : n ≤ 9223372036854775807) :
    Calls Tryz.prog 186 #[.agg #[.slice so sn sc, .slice ao an ac], .int .i64 f, .int .i64 n] w fun e w' => ∃ o1 n1 c1 o2 n2 c2, e = .returned (.tuple #[.agg #[.slice o1 n1 c1, .slice o2 n2 c2], .int .i64 (prtE sh at' f n)]) ∧ Ft 3 w' w.heap.size o1 n1 c1 (prtS sh at' f n) ∧ Ft 2 w' w.heap.size o2 n2 c2 (prtA sh at' f n) ∧ Below w.heap.size w w' := by
  by_cases h0 : mayA sh at' = 0
  · by_cases k : f < 0 ∨ n < 0 ∨ tal sh - f < n
    · obtain ⟨e1, e2, e3⟩ := prt_out h0 k
      rw [e1, e2, e3]
      exact (part_out so ao sn sc an ac sh at' f n w h g h0 f1 f2 n1 n2 k).mono fun e w' ⟨h1, h2⟩ => ⟨none, 0, 0, none, 0, 0, h1, Ft.nil _ _ _, Ft.nil _ _ _, h2⟩
    · obtain ⟨fr, rfl⟩ : ∃ fr : Nat, f = fr := ⟨f.toNat, by omega⟩
      obtain ⟨m, rfl⟩ : ∃ m : Nat, n = m := ⟨n.toNat, by omega⟩
      obtain ⟨e1, e2, e3⟩ := prt_in (fr := fr) (m := m) h0 (by omega)
      rw [e1, e2, e3]
      exact part_ok so ao sn sc an ac sh at' fr m w h hs g gs h0 (by omega)
  · obtain ⟨e1, e2, e3⟩ := prt_may (f := f) (n := n) h0
    rw [e1, e2, e3]
    exact (part_may so ao sn sc an ac sh at' f n w h g h0).mono fun e w' ⟨h1, h2⟩ => ⟨none, 0, 0, none, 0, 0, h1, Ft.nil _ _ _, Ft.nil _ _ _, h2⟩
end Go.Proofs.YtelcagfaflpolaaGreat
