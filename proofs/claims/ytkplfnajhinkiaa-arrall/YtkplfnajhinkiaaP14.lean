
/- From a script's reading to its entries. -/

import Derived.Test.YtkplfnajhinkiaaP13
import Derived.Test.YtkplfnajhinkiaaAOpen


namespace Go.Proofs.Ytkplfnajhinkiaa

open Go.ChangeShapes Go.WideShapes Go.ChangeAt Go.RowKit

set_option linter.unusedVariables false

theorem trod_struct6 {H : Type} {enc : TypeId × Value → H} {P : Program} {w : World} {base : Nat} {spare : TypeId → Bool} {held : Bool} {t : TypeId} {f0 f1 f2 f3 f4 f5 : Field} {fuel : Nat} {cs : List Value} {x : DataW H × List MemPlace} (ht : P.underlying t = some (.struct #[f0, f1, f2, f3, f4, f5])) (h : DataW.trod enc P w base spare held fuel t cs = some x) :
    ∃ y0 y1 y2 y3 y4 y5 n, x.1 = .agg [y0.1, y1.1, y2.1, y3.1, y4.1, y5.1] ∧ cs.length = P.cellsOf t ∧ DataW.trod enc P w base spare held n f0.type ((cs.drop f0.offset).take (P.cellsOf f0.type)) = some y0 ∧
      DataW.trod enc P w base spare held n f1.type ((cs.drop f1.offset).take (P.cellsOf f1.type)) = some y1 ∧ DataW.trod enc P w base spare held n f2.type ((cs.drop f2.offset).take (P.cellsOf f2.type)) = some y2 ∧
      DataW.trod enc P w base spare held n f3.type ((cs.drop f3.offset).take (P.cellsOf f3.type)) = some y3 ∧ DataW.trod enc P w base spare held n f4.type ((cs.drop f4.offset).take (P.cellsOf f4.type)) = some y4 ∧ DataW.trod enc P w base spare held n f5.type ((cs.drop f5.offset).take (P.cellsOf f5.type)) = some y5 := by
  obtain ⟨xs, n, _, rfl, hl, hlen, hf⟩ := DataW.trod_struct ht h
  match xs, hlen with
  | [y0, y1, y2, y3, y4, y5], _ => exact ⟨y0, y1, y2, y3, y4, y5, n, by simp, hl, by simpa using hf 0 f0 rfl, by simpa using hf 1 f1 rfl, by simpa using hf 2 f2 rfl, by simpa using hf 3 f3 rfl, by simpa using hf 4 f4 rfl, by simpa using hf 5 f5 rfl⟩
theorem eight_of_len {α : Type} {cs : List α} (h : cs.length = 8) : ∃ c0 c1 c2 c3 c4 c5 c6 c7, cs = [c0, c1, c2, c3, c4, c5, c6, c7] := by
  match cs, h with
  | [c0, c1, c2, c3, c4, c5, c6, c7], _ => exact ⟨c0, c1, c2, c3, c4, c5, c6, c7, rfl⟩
theorem cellsOp : Try.prog.cellsOf 57 = 8 := by kernel_rfl
theorem cellsi : Try.prog.cellsOf 3 = 1 := by kernel_rfl
theorem cellsl : Try.prog.cellsOf 2 = 1 := by kernel_rfl
theorem weights_op {H : Type} (y0 y1 y2 y3 y4 y5 : DataW H) : (DataW.agg [y0, y1, y2, y3, y4, y5]).weights Try.checked.prog 57 = y0.weights Try.checked.prog 3 ++ (y1.weights Try.checked.prog 55 ++ (y2.weights Try.checked.prog 55 ++ (y3.weights Try.checked.prog 2 ++ (y4.weights Try.checked.prog 3 ++ y5.weights Try.checked.prog 50)))) := by
  conv => lhs; rw [DataW.weights]
  rw [show Try.checked.prog.underlying 57 = _ from Try.underlying57]
  simp [DataW.weightsEach]

/-- One entry of a script. -/
theorem elemA {H : Type} {enc : TypeId × Value → H} {W : World} {n : Nat} {a : Addr} {x : DataW H × List MemPlace} {cs : List Value} (hc : W.cells? 0 a 8 = some cs) (h : DataW.trod enc Try.prog W 0 (fun _ => true) true n 57 cs = some x)
    (hz : ∀ n ∈ x.1.weights Try.checked.prog 57, n ≤ 140737488351232) :
    ∃ q : OpQ, (W.cell? (a.add 0) = some (.int .i64 q.K) ∧ W.cell? (a.add 1) = some (.slice q.so q.sn q.sc) ∧ W.cell? (a.add 2) = some (.slice q.ao q.an q.ac) ∧ W.cell? (a.add 3) = some (.slice q.uo q.tn q.tc) ∧ W.cell? (a.add 4) = some (.slice q.bo q.bn q.bc) ∧ W.cell? (a.add 5) = some (.int .i64 q.N) ∧ W.cell? (a.add 6) = some (.int .i64 q.I) ∧ W.cell? (a.add 7) = some (.slice q.lo q.ln q.lc)) ∧ OkQ W q := by
  obtain ⟨_, hl, hg⟩ := World.cells?_some hc
  obtain ⟨y0, y1, y2, y3, y4, y5, m, hx, _, h0, h1, h2, h3, h4, h5⟩ := trod_struct6 Try.underlying57 h
  rw [hx, weights_op] at hz
  obtain ⟨c0, c1, c2, c3, c4, c5, c6, c7, rfl⟩ := eight_of_len hl
  have g0 := hg 0 (by omega)
  have g1 := hg 1 (by omega)
  have g2 := hg 2 (by omega)
  have g3 := hg 3 (by omega)
  have g4 := hg 4 (by omega)
  have g5 := hg 5 (by omega)
  have g6 := hg 6 (by omega)
  have g7 := hg 7 (by omega)
  simp only [cellsA, cellsi, cellsl, cellsL, List.drop_zero, List.drop_succ_cons, List.take_succ_cons, List.take_zero] at h0 h1 h2 h3 h4 h5
  obtain ⟨k, e0, _, _⟩ := DataW.trod_int Try.underlying3 h0
  obtain ⟨N, e3, _, w3⟩ := DataW.trod_int Try.underlying2 h3
  obtain ⟨I, e4, _, w4⟩ := DataW.trod_int Try.underlying3 h4
  obtain ⟨so, sn, sc, ao, an, ac, s, b, e1, r1, s1, r2, s2⟩ := open_arr h1 (fun n hn => hz n (by simp [hn]))
  obtain ⟨uo, tn, tc, bo, bn, bc, t, d, e2, r3, s3, r4, s4⟩ := open_arr h2 (fun n hn => hz n (by simp [hn]))
  obtain ⟨lo, ln, lc, l, e5, r5, s5⟩ := open_nums tzL h5 (fun n hn => hz n (by simp [hn]))
  simp at e0 e1 e2 e3 e4
  obtain ⟨e1, e1'⟩ := e1
  obtain ⟨e2, e2'⟩ := e2
  subst e0 e1 e1' e2 e2' e3 e4 e5
  have b3 := bounds_i64 w3
  have b4 := bounds_i64 w4
  exact ⟨⟨k, N, I, so, sn, sc, ao, an, ac, uo, tn, tc, bo, bn, bc, lo, ln, lc, s, b, t, d, l⟩, ⟨by simpa using g0, by simpa using g1, by simpa using g2, by simpa using g3, by simpa using g4, by simpa using g5, by simpa using g6, by simpa using g7⟩, ⟨r1, r2, r3, r4, r5, s1, s2, s3, s4, s5, b3.1, b3.2, b4.1, b4.2⟩⟩
end Go.Proofs.Ytkplfnajhinkiaa
