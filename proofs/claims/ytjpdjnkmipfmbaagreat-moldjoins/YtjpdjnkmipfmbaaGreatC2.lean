
/- Contract: slices.Insert of one number at the head of a list of one's own. -/

import Derived.Test.YtjpdjnkmipfmbaaGreatC1
import Derived.Lib.AppendZerosOnto
import Derived.Lib.Overlaps
import Derived.Deep.RegionLaw




namespace Go.Proofs.YtjpdjnkmipfmbaaGreat

open Go.RowKit

set_option linter.unusedVariables false

/-- A box of one number, as a list. -/
theorem one_rd {w : World} {vb : Nat} {n : Int} (hv : w.heap[vb]? = some (.cells #[.int .i64 n] 3 (0, 0))) (h1 : -9223372036854775808 ≤ n) (h2 : n ≤ 9223372036854775807) : Rd w (some ⟨vb, 0, none⟩) 1 [n] := by
  refine ⟨rfl, by omega, fun k hk => ?_, fun _ => ⟨vb, 0, rfl, (Array.getElem?_eq_some_iff.1 hv).1, fun k hk => ?_⟩⟩
  · obtain rfl : k = 0 := by omega
    exact ⟨h1, h2⟩
  · obtain rfl : k = 0 := by omega
    exact (cell_of_row w vb 0 _ _ (0, 0) hv).trans rfl
theorem one_sl (vb : Nat) : Sl (some ⟨vb, 0, none⟩) 1 1 := ⟨fun e => (by cases e), Nat.le_refl _, by omega⟩

set_option maxHeartbeats 2000000 in
theorem insert0_end (so : Option Addr) (c : Nat) (n : Int) (vb B : Nat) (w : World) (f : Ft 3 w B so 0 c []) (hv : w.heap[vb]? = some (.cells #[.int .i64 n] 3 (0, 0))) (hB : B ≤ w.heap.size) (h1 : -9223372036854775808 ≤ n) (h2 : n ≤ 9223372036854775807) :
    Calls Tryz.prog 98 #[.slice so 0 c, .int .i64 0, .slice (some ⟨vb, 0, none⟩) 1 1] w fun e w' => ∃ co c', e = .returned (.slice co 1 c') ∧ Ft 3 w' B co 1 c' [n] ∧ Below B w w' := by
  have rv := one_rd hv h1 h2
  have sv := one_sl vb
  have hm := f.sl.max
  rcases f.own.2 with ⟨e, _⟩ | ⟨g, c', cur, e, _⟩
  · cases e
    go_enter Tryz.func98, Tryz.ntmps98
    go_wp2_with (at_builtin; refine wpList_joinT tyI rfl _ _ rfl B none (some ⟨vb, 0, none⟩) 0 0 1 1 [] [n] rfl rfl f rv sv (by omega) hB ?_; intro co c' w1 f1 b1)
    go_ret
    exact ⟨_, _, rfl, f1, b1⟩
  · cases e
    go_enter Tryz.func98, Tryz.ntmps98
    go_wp2_with (at_builtin; refine wpList_joinT tyI rfl _ _ rfl B (some ⟨g, 0, none⟩) (some ⟨vb, 0, none⟩) 0 c 1 1 [] [n] rfl rfl f rv sv (by omega) hB ?_; intro co c' w1 f1 b1)
    go_ret
    exact ⟨_, _, rfl, f1, b1⟩

/-- A copy into a row: that row alone is changed. -/
theorem run_spliceG {s e : TypeId} (ty : Ty s e) {w : World} (tt : TypeId) (dp sp : Option Addr) (dLen dCap sLen sCap g off : Nat) (cur : List Value) (hg : w.heap[g]? = some (.cells cur.toArray e (0, 0))) (cs : List Value) (hn : cs.length = Nat.min sLen dLen)
    (hpos : 0 < cs.length → dp = some ⟨g, off, none⟩ ∧ ∃ ad, sp = some ad ∧ ∀ j v, cs[j]? = some v → w.cell? (ad.add j) = some v) (hfit : off + cs.length ≤ cur.length) (h1 : ∀ v ∈ cs, v.oneCell' = true) :
    ∃ w', (Builtin.copy_ #[s, s] tt #[.slice dp dLen dCap, .slice sp sLen sCap]).run Tryz.prog w = .ok (goInt cs.length) w' ∧ w'.heap[g]? = some (.cells (splice cur off cs).toArray e (0, 0)) ∧ w.grownBy w' (some g) := by
  by_cases h0 : cs.length = 0
  · obtain rfl : cs = [] := List.eq_nil_of_length_eq_zero h0
    exact ⟨w, run_copy_none w _ _ tt e dp sp dLen dCap sLen sCap ty.und ty.one (by simpa using hn.symm), by simpa [splice] using hg, World.grownBy.refl _ _⟩
  · obtain ⟨rfl, ad, rfl, hsrc⟩ := hpos (by omega)
    exact ⟨_, run_copy_row (P := Tryz.prog) w _ _ tt e g off dLen dCap ad sLen sCap cur.toArray e cs ty.und ty.one hg hn hsrc (by simpa using hfit) h1, by simpa [splice] using setRow_heap w g _ _ e _ hg,
      ⟨rfl, rfl, rfl, by simp, fun k _ hk => setRow_other w g k _ (fun e => hk (by rw [e]))⟩⟩
theorem wp_spliceG {s e : TypeId} (ty : Ty s e) {w : World} {o : Oper} {a : Act} {K : Act → World → Prop} {Q : Exit → Act → World → Prop} (d x : Operand) (ho : o.op = .call { callee := .builtin .copy, args := #[d, x], argTypes := #[s, s] })
    (dp sp : Option Addr) (dLen dCap sLen sCap : Nat) (hd : a.eval d = .slice dp dLen dCap) (hs : a.eval x = .slice sp sLen sCap) (g off : Nat) (cur : List Value) (hg : w.heap[g]? = some (.cells cur.toArray e (0, 0))) (cs : List Value) (hn : cs.length = Nat.min sLen dLen)
    (hpos : 0 < cs.length → dp = some ⟨g, off, none⟩ ∧ ∃ ad, sp = some ad ∧ ∀ j v, cs[j]? = some v → w.cell? (ad.add j) = some v) (hfit : off + cs.length ≤ cur.length) (h1 : ∀ v ∈ cs, v.oneCell' = true)
    (h : ∀ w', Hid (w'.heap[g]? = some (.cells (splice cur off cs).toArray e (0, 0))) → w.grownBy w' (some g) → K (a.put o.dst (goInt cs.length)) w') : o.wp Tryz.prog a w K Q := by
  obtain ⟨w', hr, h2, h3⟩ := run_spliceG ty o.type dp sp dLen dCap sLen sCap g off cur hg cs hn hpos hfit h1
  unfold Oper.wp execOp
  simp only [ho, resolve, invoke, builtin, Sem.run_bind, Sem.run_pure, Result.andThen_ok, List.map_toArray, List.map_cons, List.map_nil, hd, hs, hr]
  exact h w' h2 h3
theorem wpList_spliceG {s e : TypeId} (ty : Ty s e) {w : World} {ops : Array Oper} {rest : List Oper} {o : Oper} {a : Act} {Q : Exit → Act → World → Prop} (hgd : o.guard = none) (d x : Operand) (ho : o.op = .call { callee := .builtin .copy, args := #[d, x], argTypes := #[s, s] })
    (dp sp : Option Addr) (dLen dCap sLen sCap : Nat) (hd : a.eval d = .slice dp dLen dCap) (hs : a.eval x = .slice sp sLen sCap) (g off : Nat) (cur : List Value) (hg : w.heap[g]? = some (.cells cur.toArray e (0, 0))) (cs : List Value) (hn : cs.length = Nat.min sLen dLen)
    (hpos : 0 < cs.length → dp = some ⟨g, off, none⟩ ∧ ∃ ad, sp = some ad ∧ ∀ j v, cs[j]? = some v → w.cell? (ad.add j) = some v) (hfit : off + cs.length ≤ cur.length) (h1 : ∀ v ∈ cs, v.oneCell' = true)
    (h : ∀ w', Hid (w'.heap[g]? = some (.cells (splice cur off cs).toArray e (0, 0))) → w.grownBy w' (some g) → wpList Tryz.prog ops Q rest (a.put o.dst (goInt cs.length)) w') : wpList Tryz.prog ops Q (o :: rest) a w :=
  wpList_plain hgd fun _ hK => wp_spliceG ty d x ho dp sp dLen dCap sLen sCap hd hs g off cur hg cs hn hpos hfit h1 fun w' h2 h3 => hK _ _ (h w' h2 h3)
theorem step_spliceG {s e : TypeId} (ty : Ty s e) {w : World} {ops : Array Oper} {o : Oper} {a : Act} {K : Act → World → Prop} {Q : Exit → Act → World → Prop} {E : Prop} (hgd : o.guard = none) (d x : Operand) (ho : o.op = .call { callee := .builtin .copy, args := #[d, x], argTypes := #[s, s] })
    (dp sp : Option Addr) (dLen dCap sLen sCap : Nat) (hd : a.eval d = .slice dp dLen dCap) (hs : a.eval x = .slice sp sLen sCap) (g off : Nat) (cur : List Value) (hg : w.heap[g]? = some (.cells cur.toArray e (0, 0))) (cs : List Value) (hn : cs.length = Nat.min sLen dLen)
    (hpos : 0 < cs.length → dp = some ⟨g, off, none⟩ ∧ ∃ ad, sp = some ad ∧ ∀ j v, cs[j]? = some v → w.cell? (ad.add j) = some v) (hfit : off + cs.length ≤ cur.length) (h1 : ∀ v ∈ cs, v.oneCell' = true)
    (h : ∀ w', Hid (w'.heap[g]? = some (.cells (splice cur off cs).toArray e (0, 0))) → w.grownBy w' (some g) → K (a.put o.dst (goInt cs.length)) w') : if Region.wanted o (yielded ops a.tmps) = true then Oper.wp Tryz.prog o a w K Q else E := by
  have hw : Region.wanted o (yielded ops a.tmps) = true := by simp [Region.wanted, hgd]
  rw [if_pos hw]
  exact wp_spliceG ty d x ho dp sp dLen dCap sLen sCap hd hs g off cur hg cs hn hpos hfit h1 h

theorem take_splices {cur zs : List Value} {v : Value} {k : Nat} (hl : k + 1 ≤ cur.length) (hz : zs.length = k) : (splice (splice cur 1 zs) 0 [v]).take (k + 1) = v :: zs := by
  unfold splice
  cases cur with
  | nil => simp at hl
  | cons x r =>
    simp at hl
    simp [hz]
theorem take_splices' {cur zs : List Value} {v : Value} {k : Nat} (hl : k + 1 ≤ cur.length) (hz : zs.length = k) : (splice (splice cur 0 [v]) 1 zs).take (k + 1) = v :: zs := by
  unfold splice
  cases cur with
  | nil => simp at hl
  | cons x r =>
    simp at hl
    simp [hz]
theorem nth_cons (n : Int) (zs : List Int) {w : World} {ao : Option Addr} {k : Nat} (h : Rd w ao k zs) (h1 : -9223372036854775808 ≤ n) (h2 : n ≤ 9223372036854775807) : ∀ j, j < k + 1 → -9223372036854775808 ≤ nth (n :: zs) j ∧ nth (n :: zs) j ≤ 9223372036854775807
  | 0, _ => ⟨h1, h2⟩
  | j + 1, hj => h.num j (by omega)

set_option maxHeartbeats 4000000 in
set_option maxRecDepth 20000 in
theorem insert0_room (g k c : Nat) (zs : List Int) (n : Int) (vb B : Nat) (w : World) (f : Ft 3 w B (some ⟨g, 0, none⟩) k c zs) (hv : w.heap[vb]? = some (.cells #[.int .i64 n] 3 (0, 0))) (hne : g ≠ vb) (hk0 : 0 < k) (hk : k ≤ 4096) (hc : k + 1 ≤ c) (hB : B ≤ w.heap.size) (h1 : -9223372036854775808 ≤ n) (h2 : n ≤ 9223372036854775807) :
    Calls Tryz.prog 98 #[.slice (some ⟨g, 0, none⟩) k c, .int .i64 0, .slice (some ⟨vb, 0, none⟩) 1 1] w fun e w' => ∃ co c', e = .returned (.slice co (k + 1) c') ∧ Ft 3 w' B co (k + 1) c' (n :: zs) ∧ Below B w w' := by
  have hm := f.sl.max
  have hl := f.rd.len
  have rd := f.rd
  rcases f.own.2 with ⟨e, _⟩ | ⟨g', c', cur, e, hBg, hg, hnc, hcm, hcs, ht⟩
  · cases e
  cases e
  obtain ⟨cl, rfl⟩ : ∃ cl : List Value, cur = cl.toArray := ⟨cur.toList, by simp⟩
  have hcl : cl.length = c := by simpa using hcs
  have ht' : cl.take k = zs.map (Value.int .i64) := by simpa using ht
  have hov : ∀ lb cb, (callFunc 112 #[.slice (some ⟨vb, 0, none⟩) 1 1, .slice (some ⟨g, 1, none⟩) lb cb]).run Tryz.prog w = .ok (.value (.bool false)) w := fun lb cb => by
    have hsa : w.shape? vb = some (3, 1) := by unfold World.shape?; rw [hv]; rfl
    have hsb : w.shape? g = some (3, c) := by unfold World.shape?; rw [hg]; simp [hcl]
    have hfr : ∀ o, w.frozen? ⟨vb, o, none⟩ = false := fun o => frozen_of_row w vb o _ _ hv
    rw [run_callFunc_extern Tryz.func112 (by kernel_rfl) (by kernel_rfl) (by kernel_rfl) (e := Extern.SlicesOverlaps.overlaps #[23, 23] #[4]) (by kernel_rfl),
      Lib.run_overlaps_apart w 23 4 3 Tryz.underlying23 1 (fun w => by obtain ⟨i0, hi, _, hz1, _⟩ := info_parts tyI.info; simp [sizeOf, typeInfo, hi, hz1]) ⟨vb, 0, none⟩ ⟨g, 1, none⟩ 1 1 lb cb (fun e => hne e.symm) _ _ _ _ hsa hsb (by omega) (hfr 0) (hfr 1)]
    rfl
  have t0 : ((0 : Int) == (k : Int)) = false := by simp; omega
  have t1 : decide ((c : Int) < (k : Int) + 1) = false := by simp; omega
  have t2 : (k : Int) + 1 ≤ (c : Int) := by omega
  have w1 : IntKind.i64.wrap ((k : Int) + 1) = (k : Int) + 1 := wrapIn _ (by omega)
  have hwg : ∀ W : World, W.heap[g]? = w.heap[g]? → ∀ j v, (zs.map (Value.int .i64))[j]? = some v → W.cell? ((⟨g, 0, none⟩ : Addr).add j) = some v := fun W hW j v hj => by
    rw [add_at, Nat.zero_add, cell_of_row W g j _ _ (0, 0) (hW.trans hg)]
    have : j < k := by have := (List.getElem?_eq_some_iff.1 hj).1; simpa [hl] using this
    rw [← ht', List.getElem?_take_of_lt this] at hj
    simpa using hj
  have hvv : w.cell? ⟨vb, 0, none⟩ = some (.int .i64 n) := (cell_of_row w vb 0 _ _ (0, 0) hv).trans rfl
  have hvl := (Array.getElem?_eq_some_iff.1 hv).1
  have w11 : IntKind.i64.wrap 1 = 1 := wrapIn _ (by omega)
  have c1 : ¬ c = 1 := by omega
  have c2 : (1 : Int) ≤ (k : Int) + 1 := by omega
  have c3 : ¬ c = 0 := by omega
  have c4 : (0 : Int) ≤ (k : Int) + 1 := by omega
  have hmin : (zs.map (Value.int .i64)).length = Nat.min (k + 1) k := by rw [List.length_map, hl]; exact (Nat.min_eq_right (by omega)).symm
  have hwd : ∀ j v, (zs.map (Value.int .i64))[j]? = some v → w.drew.cell? ((⟨g, 0, none⟩ : Addr).add j) = some v := fun j v hj => hwg w rfl j v hj
  clear ht hcs hwg
  go_enter Tryz.func98, Tryz.ntmps98
  go_wp2_with (simp only [hov])
  go_region_law (refine step_spliceG tyI rfl (.tmp 73) (.tmp 76) rfl (some ⟨g, 1, none⟩) (some ⟨g, 0, none⟩) k (c - 1) (k + 1) c (by simp [Act.eval, Act.put]) (by simp [Act.eval, Act.put]) g 1 cl hg (zs.map (Value.int .i64)) hmin (fun _ => ⟨rfl, ⟨g, 0, none⟩, rfl, hwd⟩) (by rw [List.length_map, hl, hcl]; omega) (ints_one zs) ?_; intro w2 HG2 hb2)
  have v2 : w2.cell? ⟨vb, 0, none⟩ = some (.int .i64 n) := hb2.cell (w := w.drew) hvv (fun e => hne (by cases e; rfl))
  have v3 : Hid (∀ j v, [Value.int .i64 n][j]? = some v → w2.cell? ((⟨vb, 0, none⟩ : Addr).add j) = some v) := fun j v hj => by
    obtain rfl : j = 0 := by have := (List.getElem?_eq_some_iff.1 hj).1; simpa using this
    cases hj; exact v2
  have l1 : Hid ((splice cl 1 (zs.map (Value.int .i64))).length = c) := by show _ = _; rw [length_splice _ _ _ (by rw [List.length_map, hl, hcl]; omega), hcl]
  have m1 : Hid ([Value.int .i64 n].length = Nat.min 1 (k + 1)) := by show 1 = Nat.min 1 (k + 1); exact (Nat.min_eq_left (by omega)).symm
  have s2 := hb2.size
  have b2 : Below B w w2 := (Below.refl B w).drew.grown hb2 (by simpa using hB) (fun k e => by cases e; exact hBg)
  clear hov hwd hmin hb2 t0 t1 t2 hvv hv f ht' hg v2
  obtain ⟨w3, hrun, hg3, hb3⟩ := run_spliceG tyI 3 (some ⟨g, 0, none⟩) (some ⟨vb, 0, none⟩) (k + 1) c 1 1 g 0 _ HG2.out [.int .i64 n] m1.out (fun _ => ⟨rfl, ⟨vb, 0, none⟩, rfl, v3.out⟩) (by rw [l1.out]; show 0 + 1 ≤ c; omega) (fun v hv => by rw [List.mem_singleton.1 hv]; rfl)
  have HG3 : Hid (w3.heap[g]? = some (.cells (splice (splice cl 1 (zs.map (Value.int .i64))) 0 [.int .i64 n]).toArray 3 (0, 0))) := hg3
  clear hg3 HG2
  go_wp2
  go_ret
  refine ⟨_, _, rfl, Ft.row HG3.out hBg (by simp [hl]) (by omega) (nth_cons n zs rd h1 h2) hc hcm ?_ ?_, ?_⟩
  · rw [length_splice _ _ _ (by rw [l1.out]; show 0 + 1 ≤ c; omega), l1.out]
  · rw [take_splices (by rw [hcl]; exact hc) (by rw [List.length_map, hl])]; rfl
  · exact b2.grown hb3 (by simp at s2; omega) (fun k e => by cases e; exact hBg)

theorem arr_list (x : Array Value) : ∃ l : List Value, x = l.toArray := ⟨x.toList, by simp⟩
/-- Zeros behind nothing, where there is no room: a new row. -/
theorem run_zeros (w : World) (ty : TypeId) (g c m : Nat) (hm0 : 0 < m) (hm : m ≤ 5000) (hc : c < m) :
    ∃ cap cur w1, (Builtin.append_ #[23, 3] ty #[.slice (some ⟨g, 0, none⟩) 0 c, .int .i64 (m : Nat)]).run Tryz.prog w = .ok (.slice (some ⟨w.heap.size, 0, none⟩) m cap) w1 ∧ w1.heap[w.heap.size]? = some (.cells (cur : List Value).toArray 3 (0, 0)) ∧ cur.length = cap ∧ m ≤ cap ∧ cap ≤ maxLen ∧ Below w.heap.size w w1 := by
  obtain ⟨i0, hi, hz0, hz1, hz2⟩ := info_parts tyI.info
  have hr := Lib.run_append_grow_zeros (P := Tryz.prog) w 23 3 ty 3 i0 (.int .i64 0) .i64 .i64 Tryz.underlying23 Tryz.underlying3 hi hz0 (some ⟨g, 0, none⟩) 0 c [] (run_firstCells_some _ _ 0 ⟨g, 0, none⟩ 0 c [] (by simp) (fun j v h => by simp at h)) m hm0 (by omega) (by omega) (by omega) (by rw [hz2]; omega) (by
    rw [hz2]
    have := nextslicecap_le (need := 0 + m) (old := c) (by omega)
    omega)
  rw [Nat.zero_add] at hr
  have g1 := grownCap_ge w m c 3
  have g2 := grownCap_le_maxLen w m c 3 (by unfold maxLen; omega)
  generalize grownCap w m c 3 = cap at *
  have hn := allocNew w.drew (.cells (#[] ++ Builtin.zeroCells (Value.int IntKind.i64 0).cells m ++ Builtin.zeroCells (Value.int IntKind.i64 0).cells (cap - m)) 3)
  obtain ⟨cur, hcur⟩ : ∃ cur : List Value, #[] ++ Builtin.zeroCells (Value.int IntKind.i64 0).cells m ++ Builtin.zeroCells (Value.int IntKind.i64 0).cells (cap - m) = cur.toArray := arr_list _
  have hl : (#[] ++ Builtin.zeroCells (Value.int IntKind.i64 0).cells m ++ Builtin.zeroCells (Value.int IntKind.i64 0).cells (cap - m)).size = cap := by
    simp [Builtin.zeroCells, Value.cells]
    omega
  rw [hcur] at hr hn hl
  exact ⟨cap, cur, _, hr, hn, by simpa using hl, g1, g2, (Below.refl _ w).drew.alloc (by simp) _⟩
end Go.Proofs.YtjpdjnkmipfmbaaGreat
