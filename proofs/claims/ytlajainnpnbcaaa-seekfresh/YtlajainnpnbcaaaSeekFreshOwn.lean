
/- It is proved that the law SeekFresh answers true for every script of calls, and leaves it as it was; no condition. -/

import Derived.Test.YtlajainnpnbcaaaSFh

import Derived.Test.YtlajainnpnbcaaaAOpen

namespace Go.Proofs.Ytlajainnpnbcaaa

open Go.ChangeShapes Go.WideShapes Go.ChangeAt Go.RowKit

set_option linter.unusedVariables false

theorem trod_struct5 {H : Type} {enc : TypeId × Value → H} {P : Program} {w : World} {base : Nat} {spare : TypeId → Bool} {held : Bool} {t : TypeId} {f0 f1 f2 f3 f4 : Field} {fuel : Nat} {cs : List Value} {x : DataW H × List MemPlace} (ht : P.underlying t = some (.struct #[f0, f1, f2, f3, f4])) (h : DataW.trod enc P w base spare held fuel t cs = some x) :
    ∃ y0 y1 y2 y3 y4 n, x.1 = .agg [y0.1, y1.1, y2.1, y3.1, y4.1] ∧ cs.length = P.cellsOf t ∧ DataW.trod enc P w base spare held n f0.type ((cs.drop f0.offset).take (P.cellsOf f0.type)) = some y0 ∧
      DataW.trod enc P w base spare held n f1.type ((cs.drop f1.offset).take (P.cellsOf f1.type)) = some y1 ∧ DataW.trod enc P w base spare held n f2.type ((cs.drop f2.offset).take (P.cellsOf f2.type)) = some y2 ∧
      DataW.trod enc P w base spare held n f3.type ((cs.drop f3.offset).take (P.cellsOf f3.type)) = some y3 ∧ DataW.trod enc P w base spare held n f4.type ((cs.drop f4.offset).take (P.cellsOf f4.type)) = some y4 := by
  obtain ⟨xs, n, _, rfl, hl, hlen, hf⟩ := DataW.trod_struct ht h
  match xs, hlen with
  | [y0, y1, y2, y3, y4], _ => exact ⟨y0, y1, y2, y3, y4, n, by simp, hl, by simpa using hf 0 f0 rfl, by simpa using hf 1 f1 rfl, by simpa using hf 2 f2 rfl, by simpa using hf 3 f3 rfl, by simpa using hf 4 f4 rfl⟩
theorem seven_of_len {α : Type} {cs : List α} (h : cs.length = 7) : ∃ c0 c1 c2 c3 c4 c5 c6, cs = [c0, c1, c2, c3, c4, c5, c6] := by
  match cs, h with
  | [c0, c1, c2, c3, c4, c5, c6], _ => exact ⟨c0, c1, c2, c3, c4, c5, c6, rfl⟩
theorem cellsOp : Try.prog.cellsOf 38 = 7 := by kernel_rfl
theorem cellsi : Try.prog.cellsOf 3 = 1 := by kernel_rfl
theorem weights_op {H : Type} (y0 y1 y2 y3 y4 : DataW H) : (DataW.agg [y0, y1, y2, y3, y4]).weights Try.checked.prog 38 = y0.weights Try.checked.prog 3 ++ (y1.weights Try.checked.prog 3 ++ (y2.weights Try.checked.prog 3 ++ (y3.weights Try.checked.prog 36 ++ y4.weights Try.checked.prog 36))) := by
  conv => lhs; rw [DataW.weights]
  rw [show Try.checked.prog.underlying 38 = _ from Try.underlying38]
  simp [DataW.weightsEach]
theorem add_at' (b off i : Nat) : (⟨b, off, none⟩ : Addr).add i = ⟨b, off + i, none⟩ := by unfold Addr.add; split <;> simp_all
/-- One entry of a script. -/
theorem elemB {H : Type} {enc : TypeId × Value → H} {W : World} {n : Nat} {a : Addr} {x : DataW H × List MemPlace} {cs : List Value} (hc : W.cells? 0 a 7 = some cs) (h : DataW.trod enc Try.prog W 0 (fun _ => true) true n 38 cs = some x)
    (hz : ∀ n ∈ x.1.weights Try.checked.prog 38, n ≤ 140737488351232) :
    ∃ q : OpQ, (W.cell? (a.add 0) = some (.int .i64 q.K) ∧ W.cell? (a.add 1) = some (.int .i64 q.O) ∧ W.cell? (a.add 2) = some (.int .i64 q.N) ∧ W.cell? (a.add 3) = some (.slice q.so q.sn q.sc) ∧ W.cell? (a.add 4) = some (.slice q.ao q.an q.ac) ∧ W.cell? (a.add 5) = some (.slice q.uo q.tn q.tc) ∧ W.cell? (a.add 6) = some (.slice q.bo q.bn q.bc)) ∧ OkQ W q := by
  obtain ⟨_, hl, hg⟩ := World.cells?_some hc
  obtain ⟨y0, y1, y2, y3, y4, m, hx, _, h0, h1, h2, h3, h4⟩ := trod_struct5 Try.underlying38 h
  rw [hx, weights_op] at hz
  obtain ⟨c0, c1, c2, c3, c4, c5, c6, rfl⟩ := seven_of_len hl
  have g0 := hg 0 (by omega)
  have g1 := hg 1 (by omega)
  have g2 := hg 2 (by omega)
  have g3 := hg 3 (by omega)
  have g4 := hg 4 (by omega)
  have g5 := hg 5 (by omega)
  have g6 := hg 6 (by omega)
  simp only [cellsA, cellsi, List.drop_zero, List.drop_succ_cons, List.take_succ_cons, List.take_zero] at h0 h1 h2 h3 h4
  obtain ⟨K, e0, _, _⟩ := DataW.trod_int Try.underlying3 h0
  obtain ⟨O, e1, _, _⟩ := DataW.trod_int Try.underlying3 h1
  obtain ⟨N, e2, _, _⟩ := DataW.trod_int Try.underlying3 h2
  obtain ⟨so, sn, sc, ao, an, ac, s, b, e3, r1, s1, r2, s2⟩ := open_arr h3 (fun n hn => hz n (by simp [hn]))
  obtain ⟨uo, tn, tc, bo, bn, bc, t, d, e4, r3, s3, r4, s4⟩ := open_arr h4 (fun n hn => hz n (by simp [hn]))
  simp at e0 e1 e2 e3 e4
  obtain ⟨e3, e3'⟩ := e3
  obtain ⟨e4, e4'⟩ := e4
  subst e0 e1 e2 e3 e3' e4 e4'
  exact ⟨⟨K, O, N, so, sn, sc, ao, an, ac, uo, tn, tc, bo, bn, bc, s, b, t, d⟩, ⟨by simpa using g0, by simpa using g1, by simpa using g2, by simpa using g3, by simpa using g4, by simpa using g5, by simpa using g6⟩, ⟨r1, r2, r3, r4, s1, s2, s3, s4⟩⟩
theorem weightsAll_mem {H : Type} {P : Program} {e : TypeId} {ds : List (DataW H)} {d : DataW H} {n : Nat} (hd : d ∈ ds) (hn : n ∈ d.weights P e) : n ∈ DataW.weightsAll P e ds := by
  induction ds with
  | nil => cases hd
  | cons x xs ih =>
    rw [DataW.weightsAll, List.mem_append]
    rcases List.mem_cons.1 hd with rfl | h
    · exact .inl hn
    · exact .inr (ih h)
set_option maxRecDepth 20000 in
set_option maxHeartbeats 4000000 in
theorem afresh_empty (a : Option Addr) (cap : Nat) (w : World) :
    Calls Try.prog 3 #[.slice a 0 cap] w fun e w' => e = .returned (.bool true) ∧ Below w.heap.size w w' := by
  have cG := begun7_any w
  go_enter Try.func3, Try.ntmps3
  go_upto_region 4 with (go_at_call 4; (with_reducible refine cG.mono ?_); rintro e w1 ⟨rfl, b1⟩)
  have bA := box_below w1 (.cells #[.slice none 0 0, .slice none 0 0, .int .i64 0] 28)
  have nA := allocNew w1 (.cells #[.slice none 0 0, .slice none 0 0, .int .i64 0] 28)
  have bS := box_below (w1.alloc (.cells #[.slice none 0 0, .slice none 0 0, .int .i64 0] 28)) (.cells #[.slice none 0 0, .slice none 0 0, .int .i64 0] 32)
  have nS := allocNew (w1.alloc (.cells #[.slice none 0 0, .slice none 0 0, .int .i64 0] 28)) (.cells #[.slice none 0 0, .slice none 0 0, .int .i64 0] 32)
  rw [World.size_alloc] at nS
  have s1 := b1.size
  have A0 : Aq w w1.heap.size (w1.heap.size + 1) (w1.heap.size + 2) ((w1.alloc (.cells #[.slice none 0 0, .slice none 0 0, .int .i64 0] 28)).alloc (.cells #[.slice none 0 0, .slice none 0 0, .int .i64 0] 32)) := by
    refine ⟨fun g => g = w1.heap.size, fun g => g = w1.heap.size + 1, none, none, 0, 0, 0, 0, [], [], none, none, 0, 0, 0, 0, [], [], [], ?_, ?_, fun g e => ⟨by omega, by omega, by omega⟩, fun g e => ⟨by omega, by omega⟩, by simp, b1.trans ((bA.trans (bS.mono bA.size)).mono s1)⟩
    · exact ⟨(bS.block _ (Array.getElem?_eq_some_iff.1 nA).1).trans nA, rfl, rfl, World.ownsRow_nil _ _ _ _, World.ownsRow_nil _ _ _ _, ⟨fun i v hi => by simp at hi, fun i j v u g hi => by simp at hi⟩, ⟨fun i v hi => by simp at hi, fun i j v u g hi => by simp at hi⟩, rfl, fun g hg => by simp [Value.ownBlock] at hg, fun g hg => by simp [Value.ownBlock] at hg, fun i v g hi => by simp at hi, fun i v g hi => by simp at hi, by simp, by simp, by simp⟩
    · exact ⟨nS, rfl, rfl, rfl, World.ownsRow_nil _ _ _ _, World.ownsRow_nil _ _ _ _, fun g hg => by simp [Value.ownBlock] at hg, fun i v hi => by simp at hi, fun i v hi => by simp at hi, fun i j v u hi => by simp at hi, fun i j v u hi => by simp at hi, rfl, fun g hg => by simp [Value.ownBlock] at hg, fun g hg => by simp [Value.ownBlock] at hg, fun i v hi => by simp at hi, fun i v hi => by simp at hi, by simp, by simp, by simp⟩
  have A1 : ∃ C, Aq w w1.heap.size (w1.heap.size + 1) C ((w1.alloc (.cells #[.slice none 0 0, .slice none 0 0, .int .i64 0] 28)).alloc (.cells #[.slice none 0 0, .slice none 0 0, .int .i64 0] 32)) := ⟨_, A0⟩
  clear A0 bA nA bS nS s1 b1 cG
  generalize w1.heap.size + 1 = sb at *
  generalize w1.heap.size = bb at *
  generalize (w1.alloc (.cells #[.slice none 0 0, .slice none 0 0, .int .i64 0] 28)).alloc (.cells #[.slice none 0 0, .slice none 0 0, .int .i64 0] 32) = W0 at *
  obtain ⟨C, FB, FS, bso, bao, bm, bsc, bac, bsz, bvs, bus, lo, wo, n, lc, vc, sz, xs, ws, zs, hBk, hSh, h3, h4, h5, h6⟩ := A1
  have cE := ends_any sb FS lo wo n lc vc sz xs ws zs W0 hSh
  go_wp2_with fail
  refine wp_loop_rounds 1 ?_
  rw [rounds_succ]
  go_wp2_with (first
    | (go_at_call 11; (with_reducible refine cE.mono ?_); rintro e W7 ⟨rfl, K7⟩; have B7 := hBk.chg K7 (fun g hg e => (by rcases e with e | e; (· exact (h3 g hg).2.2 e); (· have := (h3 g hg).2.1; omega))); have b7 : Below w.heap.size w W7 := K7.below h6 (fun g e => (by rcases e with e | e; (· exact (h4 g e).1); (· have := h6.size; omega))) (Nat.le_refl _); have cW := whole_any bb bso bao bm bsc bac bsz bvs bus FB W7 B7)
    | (go_at_call 12; (with_reducible refine cW.mono ?_); rintro e W8 ⟨rfl, hVV⟩; rw [hVV]; clear hVV))
  go_ret
  exact ⟨rfl, b7⟩
theorem walkF {H : Type} {enc : TypeId × Value → H} {W : World} {fuel : Nat} {v : Value} {x : DataW H × List MemPlace} (h : DataW.trod enc Try.prog W 0 (fun _ => true) true fuel 22 v.cells.toList = some x) (hv : ∃ a len cap, v = .slice a len cap)
    (hz : ∀ n ∈ x.1.weights Try.checked.prog 22, n ≤ 140737488351232) :
    Calls Try.prog 3 #[v] W fun e w' => e = .returned (.bool true) ∧ Below W.heap.size W w' := by
  obtain ⟨a0, len0, cap0, rfl⟩ := hv
  rcases Go.Deep.open_slice Try.underlying22 h with ⟨hcs, _⟩ | ⟨a, len, cap, m, n, D, Pl, hcs, _, hl, hm, hmm, hx, hel⟩
  · simp [Value.cells] at hcs
    obtain ⟨rfl, rfl, rfl⟩ := hcs
    exact afresh_empty none 0 W
  · simp [Value.cells] at hcs
    obtain ⟨rfl, rfl, rfl⟩ := hcs
    simp at hmm
    subst hmm
    by_cases h0 : len0 = 0
    · subst h0
      exact afresh_empty (some a) _ W
    · have hq : ∀ i, i < len0 → ∃ q : OpQ, (W.cell? ((a.add (i * 7)).add 0) = some (.int .i64 q.K) ∧ W.cell? ((a.add (i * 7)).add 1) = some (.int .i64 q.O) ∧ W.cell? ((a.add (i * 7)).add 2) = some (.int .i64 q.N) ∧ W.cell? ((a.add (i * 7)).add 3) = some (.slice q.so q.sn q.sc) ∧ W.cell? ((a.add (i * 7)).add 4) = some (.slice q.ao q.an q.ac) ∧ W.cell? ((a.add (i * 7)).add 5) = some (.slice q.uo q.tn q.tc) ∧ W.cell? ((a.add (i * 7)).add 6) = some (.slice q.bo q.bn q.bc)) ∧ OkQ W q := by
        intro i hi
        obtain ⟨cs', h1, h2⟩ := hel i (by omega)
        rw [cellsOp] at h1
        refine elemB h1 h2 (fun n hn => hz n ?_)
        rw [hx]
        simp only [DataW.weights, show Try.checked.prog.underlying 22 = _ from Try.underlying22]
        have hm' : n ∈ DataW.weightsAll Try.checked.prog 38 ((List.range len0).map D) := weightsAll_mem (List.mem_map.2 ⟨i, List.mem_range.2 hi, rfl⟩) hn
        exact List.mem_cons_of_mem _ (List.mem_append.2 (.inl hm'))
      have inh : Inhabited OpQ := ⟨⟨0, 0, 0, none, 0, 0, none, 0, 0, none, 0, 0, none, 0, 0, [], [], [], []⟩⟩
      obtain ⟨f, hf⟩ := Go.Deep.choose_lt hq
      obtain ⟨b, off, spot⟩ := a
      have hzz := (hf 0 (by omega)).1.1
      have hspot : spot = none := by simpa [Addr.add] using World.cell?_spot hzz
      subst hspot
      have hb : b < W.heap.size := by
        have hbb := World.block_lt_of_cell? W _ hzz
        rw [add_at', add_at'] at hbb
        exact hbb
      unfold maxLen at hm
      refine afresh_walk b off len0 _ f W hb (by omega) ?_ (fun i hi => (hf i hi).2)
      intro i hi
      obtain ⟨⟨k0, k1, k2, k3, k4, k5, k6⟩, _⟩ := hf i hi
      rw [add_at', add_at'] at k0 k1 k2 k3 k4 k5 k6
      exact ⟨k0, k1, k2, k3, k4, k5, k6⟩
end Go.Proofs.Ytlajainnpnbcaaa

namespace Go.Proofs.Ytlajainnpnbcaaa.seekFresh

open Go.ChangeShapes Go.WideShapes Go.ChangeAt Go.RowKit

set_option linter.unusedVariables false

set_option maxRecDepth 100000 in
theorem lifted (os : Os) (started : os.Started) (H : Type) (enc : TypeId × Value → H) :
    ReturnsInHanded {} Try.checked os 3 .any (Rows.seekFreshSpec.pre6 enc Try.prog Try.f3 Rows.seekFreshRow.domain false) (Rows.seekFreshSpec.post enc Try.prog Try.f3 false true false false) := by
  refine returnsInHanded_of_change_sized (C := Try.checked) own started (by kernel_rfl) Try.func3
    (ChangeSpec.witness6 (enc := enc) (C := Try.checked) false ⟨#[], #[.slice none 0 0], []⟩ 8 (by kernel_rfl) (by kernel_rfl) (by kernel_rfl) (by kernel_rfl)) ?_
  intro W base args ds gs before hval0 hW hcnd hsz0 _
  have hval : ∀ (j : Nat) t v, Try.f3.params[j]? = some t → args[j]? = some v → Value.okWide Try.prog W .any base t v := hval0
  have hW' := hW
  obtain ⟨p, q, hA0, hV, rfl, hfz, hnd⟩ := hW
  have hA : DataW.TrodAll enc Try.prog W 0 (fun _ => true) true Try.f3.params.toList args.toList ds p := hA0
  rw [Try.params3] at hA hval
  obtain ⟨v0, vs0, d0, ds0, p0, q0, hargs, rfl, rfl, h0, r0⟩ := trodAll_cons hA
  obtain ⟨rfl, rfl, rfl⟩ := trodAll_nil r0
  obtain rfl : args = #[v0] := by cases args; simp_all
  obtain ⟨rfl, rfl⟩ := trodVars_none hV
  have hsz : (DataW.weightsEach Try.checked.prog [22] [d0]).all (· ≤ reachBytes) = true := hsz0
  have hsl := okWide_slice Try.underlying22 (hval 0 22 v0 rfl rfl)
  have k0 := h0
  have lt0 : ∀ x ∈ p0, x.block < W.heap.size := by obtain ⟨m, hm⟩ := k0; exact DataW.trod_lt m _ _ _ hm
  obtain ⟨f0, g0⟩ := h0
  clear hA0 hval0
  refine (walkF g0 hsl (weights_at hsz (j := 0) rfl rfl)).mono fun e W' ⟨he, bel⟩ => ?_
  subst he
  exact ⟨_, rfl, _, _, _, [], _, [], hW', trodAll_mk1 (shut_bool Try.underlying4 _), (trodAll_cons_mk (Below.trod laidOut (by kernel_rfl) (of_decide_eq_true (by kernel_rfl)) k0 bel lt0) trodAll_mk0), rfl, bel.frame _, fun h => by cases h⟩

theorem over : Rows.seekFreshRow.holds Try.pinned (OpenSpec.ofChange Rows.seekFreshSpec) :=
  OpenClaim.holds_of_wide 3 Try.f3 rfl rfl rfl rfl rfl rfl rfl ⟨rfl, rfl, rfl, rfl, rfl⟩ rfl rfl rfl rfl rfl (by kernel_rfl) Try.func3 (by kernel_rfl)
    (of_decide_eq_true (by kernel_rfl)) (by unfold Func.isWrapper; first | (rw [if_pos (by decide +kernel)]; kernel_rfl) | (rw [if_neg (by decide +kernel)]; exact ⟨rfl, rfl⟩))
    (fun os started H enc _ => lifted os started H enc)
end Go.Proofs.Ytlajainnpnbcaaa.seekFresh

namespace Go.Proofs.Ytlajainnpnbcaaa

theorem seekFresh_holds : Rows.SeekFreshSaid := seekFresh.over
#print axioms seekFresh_holds

end Go.Proofs.Ytlajainnpnbcaaa
