
/- ShapeFresh: the script is opened. -/

import Derived.Test.YtdeglhifemmknaaLI

import Derived.Test.YtdeglhifemmknaaAOpen

namespace Go.Proofs.Ytdeglhifemmknaa

open Go.ChangeShapes Go.WideShapes Go.ChangeAt Go.RowKit

set_option linter.unusedVariables false

theorem weightsAll_memZ {H : Type} {P : Program} {e : TypeId} {ds : List (DataW H)} {d : DataW H} {n : Nat} (hd : d ∈ ds) (hn : n ∈ d.weights P e) : n ∈ DataW.weightsAll P e ds := by
  induction ds with
  | nil => cases hd
  | cons x xs ih =>
    rw [DataW.weightsAll, List.mem_append]
    rcases List.mem_cons.1 hd with rfl | h
    · exact .inl hn
    · exact .inr (ih h)
theorem trod_struct5 {H : Type} {enc : TypeId × Value → H} {P : Program} {w : World} {base : Nat} {spare : TypeId → Bool} {held : Bool} {t : TypeId} {f0 f1 f2 f3 f4 : Field} {fuel : Nat} {cs : List Value} {x : DataW H × List MemPlace} (ht : P.underlying t = some (.struct #[f0, f1, f2, f3, f4])) (h : DataW.trod enc P w base spare held fuel t cs = some x) :
    ∃ y0 y1 y2 y3 y4 n, x.1 = .agg [y0.1, y1.1, y2.1, y3.1, y4.1] ∧ cs.length = P.cellsOf t ∧ DataW.trod enc P w base spare held n f0.type ((cs.drop f0.offset).take (P.cellsOf f0.type)) = some y0 ∧
      DataW.trod enc P w base spare held n f1.type ((cs.drop f1.offset).take (P.cellsOf f1.type)) = some y1 ∧ DataW.trod enc P w base spare held n f2.type ((cs.drop f2.offset).take (P.cellsOf f2.type)) = some y2 ∧
      DataW.trod enc P w base spare held n f3.type ((cs.drop f3.offset).take (P.cellsOf f3.type)) = some y3 ∧ DataW.trod enc P w base spare held n f4.type ((cs.drop f4.offset).take (P.cellsOf f4.type)) = some y4 := by
  obtain ⟨xs, n, _, rfl, hl, hlen, hf⟩ := DataW.trod_struct ht h
  match xs, hlen with
  | [y0, y1, y2, y3, y4], _ => exact ⟨y0, y1, y2, y3, y4, n, by simp, hl, by simpa using hf 0 f0 rfl, by simpa using hf 1 f1 rfl, by simpa using hf 2 f2 rfl, by simpa using hf 3 f3 rfl, by simpa using hf 4 f4 rfl⟩
theorem of_len5 {α : Type} {cs : List α} (h : cs.length = 5) : ∃ c0 c1 c2 c3 c4, cs = [c0, c1, c2, c3, c4] := by
  match cs, h with
  | [c0, c1, c2, c3, c4], _ => exact ⟨c0, c1, c2, c3, c4, rfl⟩
theorem cellsOp : Try.prog.cellsOf 31 = 5 := by kernel_rfl
theorem cellsIn : Try.prog.cellsOf 3 = 1 := by kernel_rfl
theorem cellsLi : Try.prog.cellsOf 28 = 1 := by kernel_rfl
theorem cellsLl : Try.prog.cellsOf 29 = 1 := by kernel_rfl
theorem bytesLi : Try.checked.prog.bytesOf 28 = 24 := by kernel_rfl
theorem tzII : Tz 28 3 := ⟨tyI, by kernel_rfl, by kernel_rfl, by kernel_rfl, by kernel_rfl⟩
theorem weights_op {H : Type} (y0 y1 y2 y3 y4 : DataW H) : (DataW.agg [y0, y1, y2, y3, y4]).weights Try.checked.prog 31 = y0.weights Try.checked.prog 3 ++ (y1.weights Try.checked.prog 28 ++ (y2.weights Try.checked.prog 28 ++ (y3.weights Try.checked.prog 3 ++ y4.weights Try.checked.prog 29))) := by
  conv => lhs; rw [DataW.weights]
  rw [show Try.checked.prog.underlying 31 = _ from Try.underlying31]
  simp [DataW.weightsEach]
/-- A slice of slices of numbers that was read is a list of lists. -/
theorem open_rows {H : Type} {enc : TypeId × Value → H} {W : World} {fuel : Nat} {c : Value} {x : DataW H × List MemPlace} (h : DataW.trod enc Try.prog W 0 (fun _ => true) true fuel 29 [c] = some x)
    (hz : ∀ n ∈ x.1.weights Try.checked.prog 29, n ≤ 140737488351232) : ∃ ao n cap zss, c = .slice ao n cap ∧ Rs W ao n zss ∧ Sl ao n cap := by
  rcases Go.Deep.open_slice Try.underlying29 h with ⟨hcs, _⟩ | ⟨a', len, cap', m, n, D, Pl, hcs, _, hl, hm, hmm, hx, hel⟩
  · cases hcs
    exact ⟨_, _, _, [], rfl, ⟨rfl, by omega, fun h => by omega⟩, fun _ => ⟨rfl, rfl⟩, by omega, by omega⟩
  · cases hcs
    simp at hmm
    subst hmm
    have hu : Try.checked.prog.underlying 29 = some (.slice 28) := Try.underlying29
    have hroom : m * 24 ≤ 140737488351232 := by
      have := hz (m * 24) (by rw [hx]; simp only [DataW.weights, hu, List.mem_cons, bytesLi]; left; simp; omega)
      omega
    unfold maxLen at hm
    have hq : ∀ i, i < len → ∃ z : List Int, ∃ A L C, W.cell? (a'.add i) = some (.slice A L C) ∧ Rd W A L z ∧ Sl A L C := by
      intro i hi
      obtain ⟨cs', h1, h2⟩ := hel i (by omega)
      rw [cellsLi, Nat.mul_one] at h1
      obtain ⟨v, rfl, hv⟩ := cells_one h1
      obtain ⟨A, L, C, z, rfl, r1, s1⟩ := open_nums tzII h2 (fun k hk => hz k (by
        rw [hx]
        simp only [DataW.weights, hu]
        exact List.mem_cons_of_mem _ (List.mem_append.2 (.inl (weightsAll_memZ (List.mem_map.2 ⟨i, List.mem_range.2 hi, rfl⟩) hk)))))
      exact ⟨z, A, L, C, hv, r1, s1⟩
    obtain ⟨f, hf⟩ := Go.Deep.choose_lt hq
    have hrow : ∀ k, k < len → row ((List.range len).map f) k = f k := fun k hk => by simp [row, hk]
    refine ⟨_, _, _, (List.range len).map f, rfl, ⟨by simp, by omega, fun h0 => ?_⟩, fun e => (by cases e), hl, by omega⟩
    obtain ⟨A0, L0, C0, h00, _⟩ := hf 0 h0
    have e0 : a'.add 0 = a' := by cases a'; rfl
    rw [e0] at h00
    obtain ⟨b, off, rfl⟩ := addr_none h00
    have hb := World.block_lt_of_cell? W _ h00
    refine ⟨b, off, rfl, hb, fun k hk => ?_⟩
    obtain ⟨A, L, C, h1, h2, h3⟩ := hf k hk
    rw [add_at] at h1
    exact ⟨A, L, C, h1, by rw [hrow k hk]; exact h2, h3⟩
set_option maxHeartbeats 2000000 in
set_option maxRecDepth 100000 in
theorem freshW_empty (a : Option Addr) (cap : Nat) (w : World) :
    Calls Try.prog 3 #[.slice a 0 cap] w fun e w' => e = .returned (.bool true) ∧ Below w.heap.size w w' := by
  have hcB := fun V => begun_any V
  go_enter Try.func3, Try.ntmps3
  go_wp2_with (go_at_call 4; (with_reducible refine (hcB _).mono ?_); rintro e w1 ⟨rfl, b1⟩)
  have cT : ∀ V1 V2 V3 V4 : World, V1 = w1.alloc (.cells #[.int .i64 0] 26) → V2 = V1.alloc (.cells #[.slice none 0 0, .int .i64 0] 35) → V3 = V2.alloc (.cells #[.slice none 0 0, .int .i64 0] 35) → V4 = V3.alloc (.cells #[.slice none 0 0, .int .i64 0] 35) → Calls Try.prog 8 #[.pointer (some ⟨V3.heap.size, 0, none⟩), .slice none 0 0] V4 fun e w' => e = .returned (.tuple #[]) ∧ Below w.heap.size w w' ∧ Calls Try.prog 9 #[.pointer (some ⟨V1.heap.size, 0, none⟩)] w' (fun e w'' => e = .returned (.bool true) ∧ w'' = w') ∧ Calls Try.prog 9 #[.pointer (some ⟨V3.heap.size, 0, none⟩)] w' (fun e w'' => e = .returned (.bool true) ∧ w'' = w') := by
    intro V1 V2 V3 V4 h1 h2 h3 h4
    have s1 : V1.heap.size = w1.heap.size + 1 := by rw [h1]; exact World.size_alloc _ _
    have s2 : V2.heap.size = V1.heap.size + 1 := by rw [h2]; exact World.size_alloc _ _
    have s3 : V3.heap.size = V2.heap.size + 1 := by rw [h3]; exact World.size_alloc _ _
    have s4 : V4.heap.size = V3.heap.size + 1 := by rw [h4]; exact World.size_alloc _ _
    have s0 := b1.size
    have QB2 : Bq V2 (fun g => g = V1.heap.size) V1.heap.size none 0 0 0 [] := by rw [h2]; exact Bq.made rfl
    have k3 : Below V2.heap.size V2 V3 := by rw [h3]; exact box_belowL _ _
    have k4 : Below V3.heap.size V3 V4 := by rw [h4]; exact box_belowL _ _
    have QB4 := (QB2.below k3).below k4
    have QC : Bq V4 (fun g => g = V3.heap.size) V3.heap.size none 0 0 0 [] := by rw [h4]; exact Bq.made rfl
    have k1 : Below w1.heap.size w1 V1 := by rw [h1]; exact box_belowL _ _
    have k2 : Below V1.heap.size V1 V2 := by rw [h2]; exact box_belowL _ _
    have B4 : Below w.heap.size w V4 := (((b1.trans (k1.mono s0)).trans (k2.mono (by omega))).trans (k3.mono (by omega))).trans (k4.mono (by omega))
    obtain ⟨qa, qn, qc, _, L⟩ := (Lg.nil V4 V4.heap.size (fun _ => [])).lsq (by omega)
    refine (takeQ_any V3.heap.size none 0 0 0 [] (fun g => g = V3.heap.size) _ none 0 0 qa qn qc V4 QC L (fun g hr e => by have := hr.1; have := hr.2.1; omega) (fun b' off' e => by cases e) (by omega)).mono ?_
    rintro e W7 ⟨rfl, ⟨so7, m7, sc7, sz7, vs7, Q7, hm7⟩, C7⟩
    have Q8 := QB4.chg C7 (fun g hg hr => by
      rcases hr with hr | hr
      · omega
      · have := hr.1; have := hr.2.1; omega)
    exact ⟨rfl, C7.below B4 (fun g hr => by
      rcases hr with hr | hr
      · omega
      · have := hr.1; omega) (Nat.le_refl _), wholeQ_any _ _ _ _ _ _ _ _ Q8 (by omega), wholeQ_any _ _ _ _ _ _ _ _ Q7 (by omega)⟩
  generalize hV1 : w1.alloc (.cells #[.int .i64 0] 26) = V1
  refine wp_loop_rounds 1 ?_
  rw [rounds_succ]
  go_wp2_with fail
  generalize hV2 : V1.alloc (.cells #[.slice none 0 0, .int .i64 0] 35) = V2
  refine wp_loop_rounds 1 ?_
  rw [rounds_succ]
  go_wp2_with fail
  generalize hV3 : V2.alloc (.cells #[.slice none 0 0, .int .i64 0] 35) = V3
  have cT' := cT V1 V2 V3 (V3.alloc (.cells #[.slice none 0 0, .int .i64 0] 35)) hV1.symm hV2.symm hV3.symm rfl
  clear cT
  refine wp_loop_rounds 1 ?_
  rw [rounds_succ]
  go_wp2_with fail
  refine wp_loop_rounds 1 ?_
  rw [rounds_succ]
  go_wp2_with (first
    | (go_at_call 8; (with_reducible refine cT'.mono ?_); rintro e W7 ⟨rfl, B7, c8, c7⟩)
    | (go_at_call 9; (with_reducible refine c8.mono ?_); rintro e V8 ⟨rfl, hV8⟩; rw [hV8]; clear hV8 V8)
    | (go_at_call 9; (with_reducible refine c7.mono ?_); rintro e V8 ⟨rfl, hV8⟩; rw [hV8]; clear hV8 V8))
  go_ret
  exact ⟨rfl, B7⟩
/-- One entry of a script. -/
theorem elemQ {H : Type} {enc : TypeId × Value → H} {W : World} {n : Nat} {a : Addr} {x : DataW H × List MemPlace} {cs : List Value} (hc : W.cells? 0 a 5 = some cs) (h : DataW.trod enc Try.prog W 0 (fun _ => true) true n 31 cs = some x)
    (hz : ∀ n ∈ x.1.weights Try.checked.prog 31, n ≤ 140737488351232) :
    ∃ q : OpQ, (W.cell? ((a).add 0) = some (.int .i64 q.K) ∧ W.cell? ((a).add 1) = some (.slice q.so q.sn q.sc) ∧ W.cell? ((a).add 2) = some (.slice q.ro q.rn q.rc) ∧ W.cell? ((a).add 3) = some (.int .i64 q.N) ∧ W.cell? ((a).add 4) = some (.slice q.lo q.n q.cap)) ∧ OkQ W q := by
  obtain ⟨_, hl, hg⟩ := World.cells?_some hc
  obtain ⟨y0, y1, y2, y3, y4, m, hx, _, h0, h1, h2, h3, h4⟩ := trod_struct5 Try.underlying31 h
  rw [hx, weights_op] at hz
  obtain ⟨c0, c1, c2, c3, c4, rfl⟩ := of_len5 hl
  have g0 := hg 0 (by omega)
  have g1 := hg 1 (by omega)
  have g2 := hg 2 (by omega)
  have g3 := hg 3 (by omega)
  have g4 := hg 4 (by omega)
  simp only [cellsIn, cellsLi, cellsLl, List.drop_zero, List.drop_succ_cons, List.take_succ_cons, List.take_zero] at h0 h1 h2 h3 h4
  obtain ⟨K, e0, _, _⟩ := DataW.trod_int Try.underlying3 h0
  obtain ⟨N, e3, _, wf⟩ := DataW.trod_int Try.underlying3 h3
  obtain ⟨so, sn, sc, S, e1, r1, s1⟩ := open_nums tzII h1 (fun n hn => hz n (by simp [hn]))
  obtain ⟨ro, rn, rc, T, e2, r2, s2⟩ := open_nums tzII h2 (fun n hn => hz n (by simp [hn]))
  obtain ⟨lo, ln, lc, Z, e4, r4, s4⟩ := open_rows h4 (fun n hn => hz n (by simp [hn]))
  simp only [List.cons.injEq, and_true] at e0 e3
  subst e0 e1 e2 e3 e4
  have bN := bounds_i64 wf
  exact ⟨⟨K, so, sn, sc, ro, rn, rc, N, lo, ln, lc⟩, ⟨(by simpa using g0), (by simpa using g1), (by simpa using g2), (by simpa using g3), (by simpa using g4)⟩, ⟨_, r1⟩, s1, ⟨_, r2⟩, s2, ⟨_, r4⟩, s4, bN.1, bN.2⟩
theorem walkQ {H : Type} {enc : TypeId × Value → H} {W : World} {fuel : Nat} {v : Value} {x : DataW H × List MemPlace} (h : DataW.trod enc Try.prog W 0 (fun _ => true) true fuel 22 v.cells.toList = some x) (hv : ∃ a len cap, v = .slice a len cap)
    (hz : ∀ n ∈ x.1.weights Try.checked.prog 22, n ≤ 140737488351232) :
    Calls Try.prog 3 #[v] W fun e w' => e = .returned (.bool true) ∧ Below W.heap.size W w' := by
  obtain ⟨a0, len0, cap0, rfl⟩ := hv
  rcases Go.Deep.open_slice Try.underlying22 h with ⟨hcs, _⟩ | ⟨a, len, cap, m, n, D, Pl, hcs, _, hl, hm, hmm, hx, hel⟩
  · simp [Value.cells] at hcs
    obtain ⟨rfl, rfl, rfl⟩ := hcs
    exact freshW_empty none 0 W
  · simp [Value.cells] at hcs
    obtain ⟨rfl, rfl, rfl⟩ := hcs
    simp at hmm
    subst hmm
    by_cases h0 : len0 = 0
    · subst h0
      exact freshW_empty (some a) _ W
    · have hq : ∀ i, i < len0 → ∃ q : OpQ, (W.cell? ((a.add (i * 5)).add 0) = some (.int .i64 q.K) ∧ W.cell? ((a.add (i * 5)).add 1) = some (.slice q.so q.sn q.sc) ∧ W.cell? ((a.add (i * 5)).add 2) = some (.slice q.ro q.rn q.rc) ∧ W.cell? ((a.add (i * 5)).add 3) = some (.int .i64 q.N) ∧ W.cell? ((a.add (i * 5)).add 4) = some (.slice q.lo q.n q.cap)) ∧ OkQ W q := by
        intro i hi
        obtain ⟨cs', h1, h2⟩ := hel i (by omega)
        rw [cellsOp] at h1
        refine elemQ h1 h2 (fun n hn => hz n ?_)
        rw [hx]
        simp only [DataW.weights, show Try.checked.prog.underlying 22 = _ from Try.underlying22]
        have hm' : n ∈ DataW.weightsAll Try.checked.prog 31 ((List.range len0).map D) := weightsAll_memZ (List.mem_map.2 ⟨i, List.mem_range.2 hi, rfl⟩) hn
        exact List.mem_cons_of_mem _ (List.mem_append.2 (.inl hm'))
      have inh : Inhabited OpQ := ⟨⟨0, none, 0, 0, none, 0, 0, 0, none, 0, 0⟩⟩
      obtain ⟨f, hf⟩ := Go.Deep.choose_lt hq
      obtain ⟨b, off, spot⟩ := a
      have hzz := (hf 0 (by omega)).1.1
      have hspot : spot = none := by simpa [Addr.add] using World.cell?_spot hzz
      subst hspot
      have hb : b < W.heap.size := by
        have hbb := World.block_lt_of_cell? W _ hzz
        rw [add_at, add_at] at hbb
        exact hbb
      unfold maxLen at hm
      refine freshW b off len0 _ f W hb (by omega) (by omega) ?_ (fun i hi => (hf i hi).2)
      intro i hi
      obtain ⟨⟨k0, k1, k2, k3, k4⟩, _⟩ := hf i hi
      rw [add_at, add_at] at k0 k1 k2 k3 k4
      exact ⟨k0, k1, k2, k3, k4⟩
end Go.Proofs.Ytdeglhifemmknaa
