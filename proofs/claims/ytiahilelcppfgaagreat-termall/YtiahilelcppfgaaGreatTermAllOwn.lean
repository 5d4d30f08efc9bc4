
/- It is proved that the law TermAll answers true for every script of calls, and leaves it as it was; no condition. -/

import Derived.Test.YtiahilelcppfgaaGreatUE

import Derived.Test.YtiahilelcppfgaaGreatTO2

namespace Go.Proofs.YtiahilelcppfgaaGreat

open Go.ChangeShapes Go.WideShapes Go.ChangeAt Go.RowKit

set_option linter.unusedVariables false

theorem trod_struct4 {H : Type} {enc : TypeId × Value → H} {P : Program} {w : World} {base : Nat} {spare : TypeId → Bool} {held : Bool} {t : TypeId} {f0 f1 f2 f3 : Field} {fuel : Nat} {cs : List Value} {x : DataW H × List MemPlace} (ht : P.underlying t = some (.struct #[f0, f1, f2, f3])) (h : DataW.trod enc P w base spare held fuel t cs = some x) :
    ∃ y0 y1 y2 y3 n, x.1 = .agg [y0.1, y1.1, y2.1, y3.1] ∧ cs.length = P.cellsOf t ∧ DataW.trod enc P w base spare held n f0.type ((cs.drop f0.offset).take (P.cellsOf f0.type)) = some y0 ∧
      DataW.trod enc P w base spare held n f1.type ((cs.drop f1.offset).take (P.cellsOf f1.type)) = some y1 ∧ DataW.trod enc P w base spare held n f2.type ((cs.drop f2.offset).take (P.cellsOf f2.type)) = some y2 ∧
      DataW.trod enc P w base spare held n f3.type ((cs.drop f3.offset).take (P.cellsOf f3.type)) = some y3 := by
  obtain ⟨xs, n, _, rfl, hl, hlen, hf⟩ := DataW.trod_struct ht h
  match xs, hlen with
  | [y0, y1, y2, y3], _ => exact ⟨y0, y1, y2, y3, n, by simp, hl, by simpa using hf 0 f0 rfl, by simpa using hf 1 f1 rfl, by simpa using hf 2 f2 rfl, by simpa using hf 3 f3 rfl⟩
theorem of_len14 {α : Type} {cs : List α} (h : cs.length = 14) : ∃ c0 c1 c2 c3 c4 c5 c6 c7 c8 c9 c10 c11 c12 c13, cs = [c0, c1, c2, c3, c4, c5, c6, c7, c8, c9, c10, c11, c12, c13] := by
  match cs, h with
  | [c0, c1, c2, c3, c4, c5, c6, c7, c8, c9, c10, c11, c12, c13], _ => exact ⟨c0, c1, c2, c3, c4, c5, c6, c7, c8, c9, c10, c11, c12, c13, rfl⟩
theorem cellsOp : Tryz.prog.cellsOf 33 = 14 := by kernel_rfl
theorem weights_op {H : Type} (y0 y1 y2 y3 : DataW H) : (DataW.agg [y0, y1, y2, y3]).weights Tryz.checked.prog 33 = y0.weights Tryz.checked.prog 3 ++ (y1.weights Tryz.checked.prog 31 ++ (y2.weights Tryz.checked.prog 31 ++ y3.weights Tryz.checked.prog 3)) := by
  conv => lhs; rw [DataW.weights]
  rw [show Tryz.checked.prog.underlying 33 = _ from Tryz.underlying33]
  simp [DataW.weightsEach]
/-- One entry of a script. -/
theorem elemT {H : Type} {enc : TypeId × Value → H} {W : World} {n : Nat} {a : Addr} {x : DataW H × List MemPlace} {cs : List Value} (hc : W.cells? 0 a 14 = some cs) (h : DataW.trod enc Tryz.prog W 0 (fun _ => true) true n 33 cs = some x)
    (hz : ∀ n ∈ x.1.weights Tryz.checked.prog 33, n ≤ 140737488351232) :
    ∃ q : OpQ, (W.cell? ((a).add 0) = some (.int .i64 q.K) ∧ W.cell? ((a).add 1) = some (.int .i64 q.k1) ∧ W.cell? ((a).add 2) = some (.string q.t1) ∧ W.cell? ((a).add 3) = some (.int .i64 q.n1) ∧ W.cell? ((a).add 4) = some (.slice q.so1 q.sn1 q.sc1) ∧ W.cell? ((a).add 5) = some (.slice q.ao1 q.an1 q.ac1) ∧ W.cell? ((a).add 6) = some (.slice q.uo1 q.un1 q.uc1) ∧ W.cell? ((a).add 7) = some (.int .i64 q.k2) ∧ W.cell? ((a).add 8) = some (.string q.t2) ∧ W.cell? ((a).add 9) = some (.int .i64 q.n2) ∧ W.cell? ((a).add 10) = some (.slice q.so2 q.sn2 q.sc2) ∧ W.cell? ((a).add 11) = some (.slice q.ao2 q.an2 q.ac2) ∧ W.cell? ((a).add 12) = some (.slice q.uo2 q.un2 q.uc2) ∧ W.cell? ((a).add 13) = some (.int .i64 q.c)) ∧ OkQ W q := by
  obtain ⟨_, hl, hg⟩ := World.cells?_some hc
  obtain ⟨y0, y1, y2, y3, m, hx, _, h0, h1, h2, h3⟩ := trod_struct4 Tryz.underlying33 h
  rw [hx, weights_op] at hz
  obtain ⟨c0, c1, c2, c3, c4, c5, c6, c7, c8, c9, c10, c11, c12, c13, rfl⟩ := of_len14 hl
  have g0 := hg 0 (by omega)
  have g1 := hg 1 (by omega)
  have g2 := hg 2 (by omega)
  have g3 := hg 3 (by omega)
  have g4 := hg 4 (by omega)
  have g5 := hg 5 (by omega)
  have g6 := hg 6 (by omega)
  have g7 := hg 7 (by omega)
  have g8 := hg 8 (by omega)
  have g9 := hg 9 (by omega)
  have g10 := hg 10 (by omega)
  have g11 := hg 11 (by omega)
  have g12 := hg 12 (by omega)
  have g13 := hg 13 (by omega)
  simp only [cellsT, cellsN, List.drop_zero, List.drop_succ_cons, List.take_succ_cons, List.take_zero] at h0 h1 h2 h3
  obtain ⟨K, e0, _, _⟩ := DataW.trod_int Tryz.underlying3 h0
  obtain ⟨C, e3, _, _⟩ := DataW.trod_int Tryz.underlying3 h3
  obtain ⟨x1, hT⟩ := open_term _ _ _ h1 (fun n hn => hz n (by simp [hn]))
  obtain ⟨x2, hU⟩ := open_term _ _ _ h2 (fun n hn => hz n (by simp [hn]))
  obtain ⟨k1, t1, n1, so1, sn1, sc1, ao1, an1, ac1, uo1, un1, uc1, e1⟩ := hT.form
  obtain ⟨k2, t2, n2, so2, sn2, sc2, ao2, an2, ac2, uo2, un2, uc2, e2⟩ := hU.form
  rw [e1] at hT
  rw [e2] at hU
  simp only [List.cons.injEq, and_true] at e0 e1 e2 e3
  obtain ⟨a0, a1, a2, a3, a4, a5⟩ := e1
  obtain ⟨b0, b1, b2, b3, b4, b5⟩ := e2
  subst e0 e3 a0 a1 a2 a3 a4 a5 b0 b1 b2 b3 b4 b5
  exact ⟨⟨K, k1, t1, n1, so1, sn1, sc1, ao1, an1, ac1, uo1, un1, uc1, k2, t2, n2, so2, sn2, sc2, ao2, an2, ac2, uo2, un2, uc2, C⟩, ⟨(by simpa using g0), (by simpa using g1), (by simpa using g2), (by simpa using g3), (by simpa using g4), (by simpa using g5), (by simpa using g6), (by simpa using g7), (by simpa using g8), (by simpa using g9), (by simpa using g10), (by simpa using g11), (by simpa using g12), (by simpa using g13)⟩, ⟨_, x1, hT⟩, _, x2, hU⟩
theorem walkT {H : Type} {enc : TypeId × Value → H} {W : World} {fuel : Nat} {v : Value} {x : DataW H × List MemPlace} (h : DataW.trod enc Tryz.prog W 0 (fun _ => true) true fuel 22 v.cells.toList = some x) (hv : ∃ a len cap, v = .slice a len cap)
    (hz : ∀ n ∈ x.1.weights Tryz.checked.prog 22, n ≤ 140737488351232) :
    Calls Tryz.prog 3 #[v] W fun e w' => e = .returned (.bool true) ∧ Below W.heap.size W w' := by
  obtain ⟨a0, len0, cap0, rfl⟩ := hv
  rcases Go.Deep.open_slice Tryz.underlying22 h with ⟨hcs, _⟩ | ⟨a, len, cap, m, n, D, Pl, hcs, _, hl, hm, hmm, hx, hel⟩
  · simp [Value.cells] at hcs
    obtain ⟨rfl, rfl, rfl⟩ := hcs
    exact allT_empty none 0 W
  · simp [Value.cells] at hcs
    obtain ⟨rfl, rfl, rfl⟩ := hcs
    simp at hmm
    subst hmm
    by_cases h0 : len0 = 0
    · subst h0
      exact allT_empty (some a) _ W
    · have hq : ∀ i, i < len0 → ∃ q : OpQ, (W.cell? ((a.add (i * 14)).add 0) = some (.int .i64 q.K) ∧ W.cell? ((a.add (i * 14)).add 1) = some (.int .i64 q.k1) ∧ W.cell? ((a.add (i * 14)).add 2) = some (.string q.t1) ∧ W.cell? ((a.add (i * 14)).add 3) = some (.int .i64 q.n1) ∧ W.cell? ((a.add (i * 14)).add 4) = some (.slice q.so1 q.sn1 q.sc1) ∧ W.cell? ((a.add (i * 14)).add 5) = some (.slice q.ao1 q.an1 q.ac1) ∧ W.cell? ((a.add (i * 14)).add 6) = some (.slice q.uo1 q.un1 q.uc1) ∧ W.cell? ((a.add (i * 14)).add 7) = some (.int .i64 q.k2) ∧ W.cell? ((a.add (i * 14)).add 8) = some (.string q.t2) ∧ W.cell? ((a.add (i * 14)).add 9) = some (.int .i64 q.n2) ∧ W.cell? ((a.add (i * 14)).add 10) = some (.slice q.so2 q.sn2 q.sc2) ∧ W.cell? ((a.add (i * 14)).add 11) = some (.slice q.ao2 q.an2 q.ac2) ∧ W.cell? ((a.add (i * 14)).add 12) = some (.slice q.uo2 q.un2 q.uc2) ∧ W.cell? ((a.add (i * 14)).add 13) = some (.int .i64 q.c)) ∧ OkQ W q := by
        intro i hi
        obtain ⟨cs', h1, h2⟩ := hel i (by omega)
        rw [cellsOp] at h1
        refine elemT h1 h2 (fun n hn => hz n ?_)
        rw [hx]
        simp only [DataW.weights, show Tryz.checked.prog.underlying 22 = _ from Tryz.underlying22]
        have hm' : n ∈ DataW.weightsAll Tryz.checked.prog 33 ((List.range len0).map D) := weightsAll_mem (List.mem_map.2 ⟨i, List.mem_range.2 hi, rfl⟩) hn
        exact List.mem_cons_of_mem _ (List.mem_append.2 (.inl hm'))
      have inh : Inhabited OpQ := ⟨⟨0, 0, ⟨#[]⟩, 0, none, 0, 0, none, 0, 0, none, 0, 0, 0, ⟨#[]⟩, 0, none, 0, 0, none, 0, 0, none, 0, 0, 0⟩⟩
      obtain ⟨f, hf⟩ := Go.Deep.choose_lt hq
      obtain ⟨b, off, spot⟩ := a
      have hzz := (hf 0 (by omega)).1.1
      have hspot : spot = none := by simpa [Addr.add] using World.cell?_spot hzz
      subst hspot
      have hb : b < W.heap.size := by
        have hbb := World.block_lt_of_cell? W _ hzz
        rw [add_at, add_at] at hbb
        exact hbb
      unfold maxLen at hm
      refine allT_walk b off len0 _ f W hb (by omega) ?_ (fun i hi => (hf i hi).2)
      intro i hi
      obtain ⟨⟨k0, k1, k2, k3, k4, k5, k6, k7, k8, k9, k10, k11, k12, k13⟩, _⟩ := hf i hi
      rw [add_at, add_at] at k0 k1 k2 k3 k4 k5 k6 k7 k8 k9 k10 k11 k12 k13
      exact ⟨k0, k1, k2, k3, k4, k5, k6, k7, k8, k9, k10, k11, k12, k13⟩
end Go.Proofs.YtiahilelcppfgaaGreat

namespace Go.Proofs.YtiahilelcppfgaaGreat.termAll

open Go.ChangeShapes Go.WideShapes Go.ChangeAt Go.RowKit

set_option linter.unusedVariables false

set_option maxRecDepth 100000 in
theorem lifted (os : Os) (started : os.Started) (H : Type) (enc : TypeId × Value → H) :
    ReturnsInHanded {} Tryz.checked os 3 .any (Rows.termAllSpec.pre6 enc Tryz.prog Tryz.f3 Rows.termAllRow.domain false) (Rows.termAllSpec.post enc Tryz.prog Tryz.f3 false true false false) := by
  refine returnsInHanded_of_change_sized (C := Tryz.checked) own started (by kernel_rfl) Tryz.func3
    (ChangeSpec.witness6 (enc := enc) (C := Tryz.checked) false ⟨#[], #[.slice none 0 0], []⟩ 8 (by kernel_rfl) (by kernel_rfl) (by kernel_rfl) (by kernel_rfl)) ?_
  intro W base args ds gs before hval0 hW hcnd hsz0 _
  have hval : ∀ (j : Nat) t v, Tryz.f3.params[j]? = some t → args[j]? = some v → Value.okWide Tryz.prog W .any base t v := hval0
  have hW' := hW
  obtain ⟨p, q, hA0, hV, rfl, hfz, hnd⟩ := hW
  have hA : DataW.TrodAll enc Tryz.prog W 0 (fun _ => true) true Tryz.f3.params.toList args.toList ds p := hA0
  rw [Tryz.params3] at hA hval
  obtain ⟨v0, vs0, d0, ds0, p0, q0, hargs, rfl, rfl, h0, r0⟩ := trodAll_cons hA
  obtain ⟨rfl, rfl, rfl⟩ := trodAll_nil r0
  obtain rfl : args = #[v0] := by cases args; simp_all
  obtain ⟨rfl, rfl⟩ := trodVars_none hV
  have hsz : (DataW.weightsEach Tryz.checked.prog [22] [d0]).all (· ≤ reachBytes) = true := hsz0
  have hsl := okWide_slice Tryz.underlying22 (hval 0 22 v0 rfl rfl)
  have k0 := h0
  have lt0 : ∀ x ∈ p0, x.block < W.heap.size := by obtain ⟨m, hm⟩ := k0; exact DataW.trod_lt m _ _ _ hm
  obtain ⟨f0, g0⟩ := h0
  clear hA0 hval0
  refine (walkT g0 hsl (weights_at hsz (j := 0) rfl rfl)).mono fun e W' ⟨he, bel⟩ => ?_
  subst he
  exact ⟨_, rfl, _, _, _, [], _, [], hW', trodAll_mk1 (shut_bool Tryz.underlying4 _), (trodAll_cons_mk (Below.trod laidOut (by kernel_rfl) (of_decide_eq_true (by kernel_rfl)) k0 bel lt0) trodAll_mk0), rfl, bel.frame _, fun h => by cases h⟩

theorem found : Tryz.pinned.checked.prog.funcNamed Rows.termAllRow.func = some 3 := by kernel_rfl
theorem facts : joinedFacts Tryz.pinned.checked.prog 3 Tryz.f3 Rows.termAllSpec Rows.termAllRow = true := by kernel_rfl
theorem over : Rows.termAllRow.holds Tryz.pinned (OpenSpec.ofChange Rows.termAllSpec) :=
  OpenClaim.holds_of_wide 3 Tryz.f3 rfl rfl rfl rfl rfl rfl rfl ⟨rfl, rfl, rfl, rfl, rfl⟩ rfl rfl rfl rfl rfl found Tryz.func3 facts
    (of_decide_eq_true (by kernel_rfl)) (by unfold Func.isWrapper; first | (rw [if_pos (by decide +kernel)]; kernel_rfl) | (rw [if_neg (by decide +kernel)]; exact ⟨rfl, rfl⟩))
    (fun os started H enc _ => lifted os started H enc)
end Go.Proofs.YtiahilelcppfgaaGreat.termAll

namespace Go.Proofs.YtiahilelcppfgaaGreat

theorem termAll_holds : Rows.TermAllSaid := termAll.over
#print axioms termAll_holds

end Go.Proofs.YtiahilelcppfgaaGreat
