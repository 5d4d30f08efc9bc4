
/- It is proved that the law SeekAll answers true for every script of calls, and leaves it as it was; no condition. -/

import Derived.Test.YtmepcenbaohcoaaGreatZS

import Derived.Test.YtmepcenbaohcoaaGreatC13

namespace Go.Proofs.YtmepcenbaohcoaaGreat

open Go.ChangeShapes Go.WideShapes Go.ChangeAt Go.RowKit

set_option linter.unusedVariables false

theorem trod_struct5 {H : Type} {enc : TypeId × Value → H} {P : Program} {w : World} {base : Nat} {spare : TypeId → Bool} {held : Bool} {t : TypeId} {f0 f1 f2 f3 f4 : Field} {fuel : Nat} {cs : List Value} {x : DataW H × List MemPlace} (ht : P.underlying t = some (.struct #[f0, f1, f2, f3, f4])) (h : DataW.trod enc P w base spare held fuel t cs = some x) :
    ∃ y0 y1 y2 y3 y4 n, x.1 = .agg [y0.1, y1.1, y2.1, y3.1, y4.1] ∧ cs.length = P.cellsOf t ∧ DataW.trod enc P w base spare held n f0.type ((cs.drop f0.offset).take (P.cellsOf f0.type)) = some y0 ∧
      DataW.trod enc P w base spare held n f1.type ((cs.drop f1.offset).take (P.cellsOf f1.type)) = some y1 ∧ DataW.trod enc P w base spare held n f2.type ((cs.drop f2.offset).take (P.cellsOf f2.type)) = some y2 ∧
      DataW.trod enc P w base spare held n f3.type ((cs.drop f3.offset).take (P.cellsOf f3.type)) = some y3 ∧ DataW.trod enc P w base spare held n f4.type ((cs.drop f4.offset).take (P.cellsOf f4.type)) = some y4 := by
  obtain ⟨xs, n, _, rfl, hl, hlen, hf⟩ := DataW.trod_struct ht h
  match xs, hlen with
  | [y0, y1, y2, y3, y4], _ => exact ⟨y0, y1, y2, y3, y4, n, by simp, hl, by simpa using hf 0 f0 rfl, by simpa using hf 1 f1 rfl, by simpa using hf 2 f2 rfl, by simpa using hf 3 f3 rfl, by simpa using hf 4 f4 rfl⟩
theorem seven_of_len {α : Type} {cs : List α} (h : cs.length = 7) : ∃ c0 c1 c2 c3 c4 c5 c6, cs = [c0, c1, c2, c3, c4, c5, c6] := by
  match cs, h with
  | [c0, c1, c2, c3, c4, c5, c6], _ => exact ⟨c0, c1, c2, c3, c4, c5, c6, rfl⟩
theorem cellsOp : Tryz.prog.cellsOf 32 = 7 := by kernel_rfl
theorem cellsi : Tryz.prog.cellsOf 3 = 1 := by kernel_rfl
theorem weights_op {H : Type} (y0 y1 y2 y3 y4 : DataW H) : (DataW.agg [y0, y1, y2, y3, y4]).weights Tryz.checked.prog 32 = y0.weights Tryz.checked.prog 3 ++ (y1.weights Tryz.checked.prog 3 ++ (y2.weights Tryz.checked.prog 3 ++ (y3.weights Tryz.checked.prog 30 ++ y4.weights Tryz.checked.prog 30))) := by
  conv => lhs; rw [DataW.weights]
  rw [show Tryz.checked.prog.underlying 32 = _ from Tryz.underlying32]
  simp [DataW.weightsEach]
theorem add_at' (b off i : Nat) : (⟨b, off, none⟩ : Addr).add i = ⟨b, off + i, none⟩ := by unfold Addr.add; split <;> simp_all
/-- One entry of a script. -/
theorem elemB {H : Type} {enc : TypeId × Value → H} {W : World} {n : Nat} {a : Addr} {x : DataW H × List MemPlace} {cs : List Value} (hc : W.cells? 0 a 7 = some cs) (h : DataW.trod enc Tryz.prog W 0 (fun _ => true) true n 32 cs = some x)
    (hz : ∀ n ∈ x.1.weights Tryz.checked.prog 32, n ≤ 140737488351232) :
    ∃ q : OpQ, (W.cell? (a.add 0) = some (.int .i64 q.K) ∧ W.cell? (a.add 1) = some (.int .i64 q.O) ∧ W.cell? (a.add 2) = some (.int .i64 q.N) ∧ W.cell? (a.add 3) = some (.slice q.so q.sn q.sc) ∧ W.cell? (a.add 4) = some (.slice q.ao q.an q.ac) ∧ W.cell? (a.add 5) = some (.slice q.uo q.tn q.tc) ∧ W.cell? (a.add 6) = some (.slice q.bo q.bn q.bc)) ∧ OkQ W q := by
  obtain ⟨_, hl, hg⟩ := World.cells?_some hc
  obtain ⟨y0, y1, y2, y3, y4, m, hx, _, h0, h1, h2, h3, h4⟩ := trod_struct5 Tryz.underlying32 h
  rw [hx, weights_op] at hz
  obtain ⟨c0, c1, c2, c3, c4, c5, c6, rfl⟩ := seven_of_len hl
  have g0 := hg 0 (by omega)
  have g1 := hg 1 (by omega)
  have g2 := hg 2 (by omega)
  have g3 := hg 3 (by omega)
  have g4 := hg 4 (by omega)
  have g5 := hg 5 (by omega)
  have g6 := hg 6 (by omega)
  simp only [cellsA, cellsi, List.drop_zero, List.drop_succ_cons, List.take_succ_cons, List.take_zero] at h0 h1 h2 h3 h4
  obtain ⟨K, e0, _, _⟩ := DataW.trod_int Tryz.underlying3 h0
  obtain ⟨O, e1, _, _⟩ := DataW.trod_int Tryz.underlying3 h1
  obtain ⟨N, e2, _, _⟩ := DataW.trod_int Tryz.underlying3 h2
  obtain ⟨so, sn, sc, ao, an, ac, s, b, e3, r1, s1, r2, s2⟩ := open_arr h3 (fun n hn => hz n (by simp [hn]))
  obtain ⟨uo, tn, tc, bo, bn, bc, t, d, e4, r3, s3, r4, s4⟩ := open_arr h4 (fun n hn => hz n (by simp [hn]))
  simp at e0 e1 e2 e3 e4
  obtain ⟨e3, e3'⟩ := e3
  obtain ⟨e4, e4'⟩ := e4
  subst e0 e1 e2 e3 e3' e4 e4'
  exact ⟨⟨K, O, N, so, sn, sc, ao, an, ac, uo, tn, tc, bo, bn, bc, s, b, t, d⟩, ⟨by simpa using g0, by simpa using g1, by simpa using g2, by simpa using g3, by simpa using g4, by simpa using g5, by simpa using g6⟩, ⟨r1, r2, r3, r4, s1, s2, s3, s4⟩⟩
theorem weightsAll_mem {H : Type} {P : Program} {e : TypeId} {ds : List (DataW H)} {d : DataW H} {n : Nat} (hd : d ∈ ds) (hn : n ∈ d.weights P e) : n ∈ DataW.weightsAll P e ds := by
  induction ds with
  | nil => cases hd
  | cons x xs ih =>
    rw [DataW.weightsAll, List.mem_append]
    rcases List.mem_cons.1 hd with rfl | h
    · exact .inl hn
    · exact .inr (ih h)
theorem allB_empty (a : Option Addr) (cap : Nat) (w : World) :
    Calls Tryz.prog 3 #[.slice a 0 cap] w fun e w' => e = .returned (.bool true) ∧ Below w.heap.size w w' := by
  go_enter Tryz.func3, Tryz.ntmps3
  go_wp2_with (go_at_call 4; refine (begun7_any _).mono ?_; rintro e w1 ⟨rfl, hb1⟩)
  have a1 := box_below w1 (.cells #[.slice none 0 0, .slice none 0 0] 28)
  have a2 := box_below (w1.alloc (.cells #[.slice none 0 0, .slice none 0 0] 28)) (.cells #[.slice none 0 0, .slice none 0 0] 28)
  have aa := a1.trans (a2.mono a1.size)
  refine wp_loop_rounds 1 ?_
  rw [rounds_succ]
  go_wp2
  go_returns
  exact ⟨rfl, hb1.trans (aa.mono hb1.size)⟩
theorem walkB {H : Type} {enc : TypeId × Value → H} {W : World} {fuel : Nat} {v : Value} {x : DataW H × List MemPlace} (h : DataW.trod enc Tryz.prog W 0 (fun _ => true) true fuel 22 v.cells.toList = some x) (hv : ∃ a len cap, v = .slice a len cap)
    (hz : ∀ n ∈ x.1.weights Tryz.checked.prog 22, n ≤ 140737488351232) :
    Calls Tryz.prog 3 #[v] W fun e w' => e = .returned (.bool true) ∧ Below W.heap.size W w' := by
  obtain ⟨a0, len0, cap0, rfl⟩ := hv
  rcases Go.Deep.open_slice Tryz.underlying22 h with ⟨hcs, _⟩ | ⟨a, len, cap, m, n, D, Pl, hcs, _, hl, hm, hmm, hx, hel⟩
  · simp [Value.cells] at hcs
    obtain ⟨rfl, rfl, rfl⟩ := hcs
    exact allB_empty none 0 W
  · simp [Value.cells] at hcs
    obtain ⟨rfl, rfl, rfl⟩ := hcs
    simp at hmm
    subst hmm
    by_cases h0 : len0 = 0
    · subst h0
      exact allB_empty (some a) _ W
    · have hq : ∀ i, i < len0 → ∃ q : OpQ, (W.cell? ((a.add (i * 7)).add 0) = some (.int .i64 q.K) ∧ W.cell? ((a.add (i * 7)).add 1) = some (.int .i64 q.O) ∧ W.cell? ((a.add (i * 7)).add 2) = some (.int .i64 q.N) ∧ W.cell? ((a.add (i * 7)).add 3) = some (.slice q.so q.sn q.sc) ∧ W.cell? ((a.add (i * 7)).add 4) = some (.slice q.ao q.an q.ac) ∧ W.cell? ((a.add (i * 7)).add 5) = some (.slice q.uo q.tn q.tc) ∧ W.cell? ((a.add (i * 7)).add 6) = some (.slice q.bo q.bn q.bc)) ∧ OkQ W q := by
        intro i hi
        obtain ⟨cs', h1, h2⟩ := hel i (by omega)
        rw [cellsOp] at h1
        refine elemB h1 h2 (fun n hn => hz n ?_)
        rw [hx]
        simp only [DataW.weights, show Tryz.checked.prog.underlying 22 = _ from Tryz.underlying22]
        have hm' : n ∈ DataW.weightsAll Tryz.checked.prog 32 ((List.range len0).map D) := weightsAll_mem (List.mem_map.2 ⟨i, List.mem_range.2 hi, rfl⟩) hn
        exact List.mem_cons_of_mem _ (List.mem_append.2 (.inl hm'))
      have inh : Inhabited OpQ := ⟨⟨0, 0, 0, none, 0, 0, none, 0, 0, none, 0, 0, none, 0, 0, [], [], [], []⟩⟩
      obtain ⟨f, hf⟩ := Go.Deep.choose_lt hq
      obtain ⟨b, off, spot⟩ := a
      have hzz := (hf 0 (by omega)).1.1
      have hspot : spot = none := by simpa [Addr.add] using World.cell?_spot hzz
      subst hspot
      have hb : b < W.heap.size := by
        have hbb := World.block_lt_of_cell? W _ hzz
        rw [add_at', add_at'] at hbb
        exact hbb
      unfold maxLen at hm
      refine allB_walk b off len0 _ f W hb (by omega) ?_ (fun i hi => (hf i hi).2)
      intro i hi
      obtain ⟨⟨k0, k1, k2, k3, k4, k5, k6⟩, _⟩ := hf i hi
      rw [add_at', add_at'] at k0 k1 k2 k3 k4 k5 k6
      exact ⟨k0, k1, k2, k3, k4, k5, k6⟩
end Go.Proofs.YtmepcenbaohcoaaGreat

namespace Go.Proofs.YtmepcenbaohcoaaGreat.seekAll

open Go.ChangeShapes Go.WideShapes Go.ChangeAt Go.RowKit

set_option linter.unusedVariables false

set_option maxRecDepth 100000 in
theorem lifted (os : Os) (started : os.Started) (H : Type) (enc : TypeId × Value → H) :
    ReturnsInHanded {} Tryz.checked os 3 .any (Rows.seekAllSpec.pre6 enc Tryz.prog Tryz.f3 Rows.seekAllRow.domain false) (Rows.seekAllSpec.post enc Tryz.prog Tryz.f3 false true false false) := by
  refine returnsInHanded_of_change_sized (C := Tryz.checked) own started (by kernel_rfl) Tryz.func3
    (ChangeSpec.witness6 (enc := enc) (C := Tryz.checked) false ⟨#[], #[.slice none 0 0], []⟩ 8 (by kernel_rfl) (by kernel_rfl) (by kernel_rfl) (by kernel_rfl)) ?_
  intro W base args ds gs before hval0 hW hcnd hsz0 _
  have hval : ∀ (j : Nat) t v, Tryz.f3.params[j]? = some t → args[j]? = some v → Value.okWide Tryz.prog W .any base t v := hval0
  have hW' := hW
  obtain ⟨p, q, hA0, hV, rfl, hfz, hnd⟩ := hW
  have hA : DataW.TrodAll enc Tryz.prog W 0 (fun _ => true) true Tryz.f3.params.toList args.toList ds p := hA0
  rw [Tryz.params3] at hA hval
  obtain ⟨v0, vs0, d0, ds0, p0, q0, hargs, rfl, rfl, h0, r0⟩ := trodAll_cons hA
  obtain ⟨rfl, rfl, rfl⟩ := trodAll_nil r0
  obtain rfl : args = #[v0] := by cases args; simp_all
  obtain ⟨rfl, rfl⟩ := trodVars_none hV
  have hsz : (DataW.weightsEach Tryz.checked.prog [22] [d0]).all (· ≤ reachBytes) = true := hsz0
  have hsl := okWide_slice Tryz.underlying22 (hval 0 22 v0 rfl rfl)
  have k0 := h0
  have lt0 : ∀ x ∈ p0, x.block < W.heap.size := by obtain ⟨m, hm⟩ := k0; exact DataW.trod_lt m _ _ _ hm
  obtain ⟨f0, g0⟩ := h0
  clear hA0 hval0
  refine (walkB g0 hsl (weights_at hsz (j := 0) rfl rfl)).mono fun e W' ⟨he, bel⟩ => ?_
  subst he
  exact ⟨_, rfl, _, _, _, [], _, [], hW', trodAll_mk1 (shut_bool Tryz.underlying4 _), (trodAll_cons_mk (Below.trod laidOut (by kernel_rfl) (of_decide_eq_true (by kernel_rfl)) k0 bel lt0) trodAll_mk0), rfl, bel.frame _, fun h => by cases h⟩

theorem over : Rows.seekAllRow.holds Tryz.pinned (OpenSpec.ofChange Rows.seekAllSpec) :=
  OpenClaim.holds_of_wide 3 Tryz.f3 rfl rfl rfl rfl rfl rfl rfl ⟨rfl, rfl, rfl, rfl, rfl⟩ rfl rfl rfl rfl rfl (by kernel_rfl) Tryz.func3 (by kernel_rfl)
    (of_decide_eq_true (by kernel_rfl)) (by unfold Func.isWrapper; first | (rw [if_pos (by decide +kernel)]; kernel_rfl) | (rw [if_neg (by decide +kernel)]; exact ⟨rfl, rfl⟩))
    (fun os started H enc _ => lifted os started H enc)
end Go.Proofs.YtmepcenbaohcoaaGreat.seekAll

namespace Go.Proofs.YtmepcenbaohcoaaGreat

theorem seekAll_holds : Rows.SeekAllSaid := seekAll.over
#print axioms seekAll_holds

end Go.Proofs.YtmepcenbaohcoaaGreat
