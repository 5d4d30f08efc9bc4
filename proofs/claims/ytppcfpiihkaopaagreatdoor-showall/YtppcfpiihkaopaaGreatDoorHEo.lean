
/- ShowAll: the script is opened. -/

import Derived.Test.YtppcfpiihkaopaaGreatDoorHE

import Derived.Test.YtppcfpiihkaopaaGreatDoorAOpen

namespace Go.Proofs.YtppcfpiihkaopaaGreatDoor

open Go.ChangeShapes Go.WideShapes Go.ChangeAt Go.RowKit

set_option linter.unusedVariables false

theorem weightsAll_memZ {H : Type} {P : Program} {e : TypeId} {ds : List (DataW H)} {d : DataW H} {n : Nat} (hd : d ∈ ds) (hn : n ∈ d.weights P e) : n ∈ DataW.weightsAll P e ds := by
  induction ds with
  | nil => cases hd
  | cons x xs ih =>
    rw [DataW.weightsAll, List.mem_append]
    rcases List.mem_cons.1 hd with rfl | h
    · exact .inl hn
    · exact .inr (ih h)
theorem trod_struct3Z {H : Type} {enc : TypeId × Value → H} {P : Program} {w : World} {base : Nat} {spare : TypeId → Bool} {held : Bool} {t : TypeId} {f0 f1 f2 : Field} {fuel : Nat} {cs : List Value} {x : DataW H × List MemPlace} (ht : P.underlying t = some (.struct #[f0, f1, f2])) (h : DataW.trod enc P w base spare held fuel t cs = some x) :
    ∃ y0 y1 y2 n, x.1 = .agg [y0.1, y1.1, y2.1] ∧ cs.length = P.cellsOf t ∧ DataW.trod enc P w base spare held n f0.type ((cs.drop f0.offset).take (P.cellsOf f0.type)) = some y0 ∧
      DataW.trod enc P w base spare held n f1.type ((cs.drop f1.offset).take (P.cellsOf f1.type)) = some y1 ∧ DataW.trod enc P w base spare held n f2.type ((cs.drop f2.offset).take (P.cellsOf f2.type)) = some y2 := by
  obtain ⟨xs, n, _, rfl, hl, hlen, hf⟩ := DataW.trod_struct ht h
  match xs, hlen with
  | [y0, y1, y2], _ => exact ⟨y0, y1, y2, n, by simp, hl, by simpa using hf 0 f0 rfl, by simpa using hf 1 f1 rfl, by simpa using hf 2 f2 rfl⟩
theorem of_len4 {α : Type} {cs : List α} (h : cs.length = 4) : ∃ c0 c1 c2 c3, cs = [c0, c1, c2, c3] := by
  match cs, h with
  | [c0, c1, c2, c3], _ => exact ⟨c0, c1, c2, c3, rfl⟩
theorem cellsOp : Tryz.prog.cellsOf 38 = 4 := by kernel_rfl
theorem cellsIn : Tryz.prog.cellsOf 3 = 1 := by kernel_rfl
theorem cellsSt : Tryz.prog.cellsOf 9 = 1 := by kernel_rfl
theorem weights_op {H : Type} (y0 y1 y2 : DataW H) : (DataW.agg [y0, y1, y2]).weights Tryz.checked.prog 38 = y0.weights Tryz.checked.prog 3 ++ (y1.weights Tryz.checked.prog 36 ++ y2.weights Tryz.checked.prog 9) := by
  conv => lhs; rw [DataW.weights]
  rw [show Tryz.checked.prog.underlying 38 = _ from Tryz.underlying38]
  simp [DataW.weightsEach]
/-- One entry of a script. -/
theorem elemS {H : Type} {enc : TypeId × Value → H} {W : World} {n : Nat} {a : Addr} {x : DataW H × List MemPlace} {cs : List Value} (hc : W.cells? 0 a 4 = some cs) (h : DataW.trod enc Tryz.prog W 0 (fun _ => true) true n 38 cs = some x)
    (hz : ∀ n ∈ x.1.weights Tryz.checked.prog 38, n ≤ 140737488351232) :
    ∃ q : OpQ, (W.cell? ((a).add 0) = some (.int .i64 q.K) ∧ W.cell? ((a).add 1) = some (.slice q.so q.sn q.sc) ∧ W.cell? ((a).add 2) = some (.slice q.lo q.n q.cap) ∧ W.cell? ((a).add 3) = some (.string q.t)) ∧ OkQ W q := by
  obtain ⟨_, hl, hg⟩ := World.cells?_some hc
  obtain ⟨y0, y1, y2, m, hx, _, h0, h1, h2⟩ := trod_struct3Z Tryz.underlying38 h
  rw [hx, weights_op] at hz
  obtain ⟨c0, c1, c2, c3, rfl⟩ := of_len4 hl
  have g0 := hg 0 (by omega)
  have g1 := hg 1 (by omega)
  have g2 := hg 2 (by omega)
  have g3 := hg 3 (by omega)
  simp only [cellsIn, cellsA, cellsSt, List.drop_zero, List.drop_succ_cons, List.take_succ_cons, List.take_zero] at h0 h1 h2
  obtain ⟨K, e0, _, _⟩ := DataW.trod_int Tryz.underlying3 h0
  obtain ⟨t, e2, x2, _⟩ := DataW.trod_string Tryz.underlying9 h2
  obtain ⟨so, sn, sc, ao, an, ac, sh, at', e1, r1, s1, r2, s2⟩ := open_arr h1 (fun n hn => hz n (by simp [hn]))
  have ht : t.data.toList.length ≤ 140737488351232 := hz _ (by rw [x2]; simp [DataW.weights])
  simp only [List.cons.injEq, and_true] at e0 e1 e2
  obtain ⟨a0, a1⟩ := e1
  subst e0 e2 a0 a1
  exact ⟨⟨K, so, sn, sc, ao, an, ac, t⟩, ⟨(by simpa using g0), (by simpa using g1), (by simpa using g2), (by simpa using g3)⟩, ⟨_, r1⟩, s1, ⟨_, r2⟩, s2, ht⟩
theorem walkS {H : Type} {enc : TypeId × Value → H} {W : World} {fuel : Nat} {v : Value} {x : DataW H × List MemPlace} (h : DataW.trod enc Tryz.prog W 0 (fun _ => true) true fuel 22 v.cells.toList = some x) (hv : ∃ a len cap, v = .slice a len cap)
    (hz : ∀ n ∈ x.1.weights Tryz.checked.prog 22, n ≤ 140737488351232) (T : Tb W) :
    Calls Tryz.prog 3 #[v] W fun e w' => e = .returned (.bool true) ∧ Below W.heap.size W w' := by
  obtain ⟨a0, len0, cap0, rfl⟩ := hv
  rcases Go.Deep.open_slice Tryz.underlying22 h with ⟨hcs, _⟩ | ⟨a, len, cap, m, n, D, Pl, hcs, _, hl, hm, hmm, hx, hel⟩
  · simp [Value.cells] at hcs
    obtain ⟨rfl, rfl, rfl⟩ := hcs
    exact allS_empty none 0 W T
  · simp [Value.cells] at hcs
    obtain ⟨rfl, rfl, rfl⟩ := hcs
    simp at hmm
    subst hmm
    by_cases h0 : len0 = 0
    · subst h0
      exact allS_empty (some a) _ W T
    · have hq : ∀ i, i < len0 → ∃ q : OpQ, (W.cell? ((a.add (i * 4)).add 0) = some (.int .i64 q.K) ∧ W.cell? ((a.add (i * 4)).add 1) = some (.slice q.so q.sn q.sc) ∧ W.cell? ((a.add (i * 4)).add 2) = some (.slice q.lo q.n q.cap) ∧ W.cell? ((a.add (i * 4)).add 3) = some (.string q.t)) ∧ OkQ W q := by
        intro i hi
        obtain ⟨cs', h1, h2⟩ := hel i (by omega)
        rw [cellsOp] at h1
        refine elemS h1 h2 (fun n hn => hz n ?_)
        rw [hx]
        simp only [DataW.weights, show Tryz.checked.prog.underlying 22 = _ from Tryz.underlying22]
        have hm' : n ∈ DataW.weightsAll Tryz.checked.prog 38 ((List.range len0).map D) := weightsAll_memZ (List.mem_map.2 ⟨i, List.mem_range.2 hi, rfl⟩) hn
        exact List.mem_cons_of_mem _ (List.mem_append.2 (.inl hm'))
      have inh : Inhabited OpQ := ⟨⟨0, none, 0, 0, none, 0, 0, ⟨#[]⟩⟩⟩
      obtain ⟨f, hf⟩ := Go.Deep.choose_lt hq
      obtain ⟨b, off, spot⟩ := a
      have hzz := (hf 0 (by omega)).1.1
      have hspot : spot = none := by simpa [Addr.add] using World.cell?_spot hzz
      subst hspot
      have hb : b < W.heap.size := by
        have hbb := World.block_lt_of_cell? W _ hzz
        rw [add_at, add_at] at hbb
        exact hbb
      unfold maxLen at hm
      refine allS_walk b off len0 _ f W T hb (by omega) ?_ (fun i hi => (hf i hi).2)
      intro i hi
      obtain ⟨⟨k0, k1, k2, k3⟩, _⟩ := hf i hi
      rw [add_at, add_at] at k0 k1 k2 k3
      exact ⟨k0, k1, k2, k3⟩
end Go.Proofs.YtppcfpiihkaopaaGreatDoor
