
/- From an argument's reading to its term. -/

import Derived.Test.YtiahilelcppfgaaGreatTT

import Derived.Test.YtiahilelcppfgaaGreatTZ

import Derived.Laws.Strings

import Derived.Test.YtiahilelcppfgaaGreatPB

namespace Go.Proofs.YtiahilelcppfgaaGreat

open Go.RowKit

set_option linter.unusedVariables false

/-- The same term, of one level more at most. -/
def lft : (d : Nat) → Tr d → Tr (d + 1)
  | 0, x => nomatch x
  | d + 1, x => Tr.mk x.nd (x.ks.map (lft d))
theorem Kq.map {α β : Type} {P : α → List Value → Prop} {Q : β → List Value → Prop} {W : World} {ko : Option Addr} {ks : List α} (f : α → β) (h : Kq P W ko ks) (hP : ∀ y v, P y v → Q (f y) v) : Kq Q W ko (ks.map f) := by
  refine ⟨by rw [List.length_map]; exact h.room, fun h0 => ?_⟩
  rw [List.length_map] at h0
  obtain ⟨b, off, e, hl, hc⟩ := h.cells h0
  refine ⟨b, off, e, hl, fun i y hy => ?_⟩
  rw [List.getElem?_map] at hy
  cases hk : ks[i]? with
  | none => rw [hk] at hy; cases hy
  | some z =>
    rw [hk] at hy
    injection hy with hy
    subst hy
    obtain ⟨c0, c1, c2, c3, c4, c5, hp, q⟩ := hc i z hk
    exact ⟨c0, c1, c2, c3, c4, c5, hP _ _ hp, q⟩
theorem Tv.lft {W : World} : ∀ {d : Nat} {x : Tr d} {v : List Value}, Tv W d x v → Tv W (d + 1) (lft d x) v
  | 0, _, _, h => h.elim
  | d + 1, x, v, h => by
    obtain ⟨⟨so, sn, sc, ao, an, ac, ko, kc, e, h1, h2, h3, h4, h5, h6⟩, hk, hn, ht⟩ := h
    have hl : (x.ks.map (Go.Proofs.YtiahilelcppfgaaGreat.lft d)).length = x.ks.length := List.length_map _
    refine ⟨⟨so, sn, sc, ao, an, ac, ko, kc, ?_, h1, h2, h3, h4, h5.map _ (fun y v hy => Tv.lft hy), ?_⟩, hk, hn, ht⟩
    · show v = [.int .i64 x.nd.k, .string x.nd.t, .int .i64 x.nd.n, .slice so sn sc, .slice ao an ac, .slice ko (x.ks.map (Go.Proofs.YtiahilelcppfgaaGreat.lft d)).length kc]
      rw [hl]; exact e
    · show Sl ko (x.ks.map (Go.Proofs.YtiahilelcppfgaaGreat.lft d)).length kc
      rw [hl]; exact h6
end Go.Proofs.YtiahilelcppfgaaGreat

namespace Go.Proofs.YtiahilelcppfgaaGreat

open Go.RowKit Go.Maps

set_option linter.unusedVariables false

theorem nds_one : ∀ (d : Nat) (x : Tr d), 1 ≤ nds d x
  | 0, x => nomatch x
  | d + 1, x => Nat.le_add_right _ _
end Go.Proofs.YtiahilelcppfgaaGreat

namespace Go.Proofs.YtiahilelcppfgaaGreat

open Go.ChangeShapes Go.WideShapes Go.ChangeAt Go.RowKit

set_option linter.unusedVariables false

theorem cellsT : Tryz.prog.cellsOf 31 = 6 := by kernel_rfl
theorem cellsS : Tryz.prog.cellsOf 9 = 1 := by kernel_rfl
theorem cellsN : Tryz.prog.cellsOf 3 = 1 := by kernel_rfl
theorem cellsK : Tryz.prog.cellsOf 29 = 1 := by kernel_rfl
theorem cellsA' : Tryz.prog.cellsOf 28 = 2 := by kernel_rfl
theorem bytesT : Tryz.checked.prog.bytesOf 31 = 104 := by kernel_rfl
theorem six_of_len {cs : List Value} (h : cs.length = 6) : ∃ c0 c1 c2 c3 c4 c5, cs = [c0, c1, c2, c3, c4, c5] := by
  match cs, h with
  | [c0, c1, c2, c3, c4, c5], _ => exact ⟨c0, c1, c2, c3, c4, c5, rfl⟩
theorem trod_five {H : Type} {enc : TypeId × Value → H} {P : Program} {w : World} {base : Nat} {spare : TypeId → Bool} {held : Bool} {t : TypeId} {f0 f1 f2 f3 f4 : Field} {fuel : Nat} {cs : List Value} {x : DataW H × List MemPlace} (ht : P.underlying t = some (.struct #[f0, f1, f2, f3, f4])) (h : DataW.trod enc P w base spare held fuel t cs = some x) :
    ∃ y0 y1 y2 y3 y4 n, fuel = n + 1 ∧ x.1 = .agg [y0.1, y1.1, y2.1, y3.1, y4.1] ∧ cs.length = P.cellsOf t ∧ DataW.trod enc P w base spare held n f0.type ((cs.drop f0.offset).take (P.cellsOf f0.type)) = some y0 ∧
      DataW.trod enc P w base spare held n f1.type ((cs.drop f1.offset).take (P.cellsOf f1.type)) = some y1 ∧ DataW.trod enc P w base spare held n f2.type ((cs.drop f2.offset).take (P.cellsOf f2.type)) = some y2 ∧
      DataW.trod enc P w base spare held n f3.type ((cs.drop f3.offset).take (P.cellsOf f3.type)) = some y3 ∧ DataW.trod enc P w base spare held n f4.type ((cs.drop f4.offset).take (P.cellsOf f4.type)) = some y4 := by
  obtain ⟨xs, n, hn, rfl, hl, hlen, hf⟩ := DataW.trod_struct ht h
  match xs, hlen with
  | [y0, y1, y2, y3, y4], _ => exact ⟨y0, y1, y2, y3, y4, n, hn, by simp, hl, by simpa using hf 0 f0 rfl, by simpa using hf 1 f1 rfl, by simpa using hf 2 f2 rfl, by simpa using hf 3 f3 rfl, by simpa using hf 4 f4 rfl⟩
theorem weightsAll_mem {H : Type} {P : Program} {e : TypeId} {ds : List (DataW H)} {d : DataW H} {n : Nat} (hd : d ∈ ds) (hn : n ∈ d.weights P e) : n ∈ DataW.weightsAll P e ds := by
  induction ds with
  | nil => cases hd
  | cons x xs ih =>
    rw [DataW.weightsAll, List.mem_append]
    rcases List.mem_cons.1 hd with rfl | h
    · exact .inl hn
    · exact .inr (ih h)
theorem weights_term {H : Type} (y0 y1 y2 y3 y4 : DataW H) : (DataW.agg [y0, y1, y2, y3, y4]).weights Tryz.checked.prog 31 = y0.weights Tryz.checked.prog 3 ++ (y1.weights Tryz.checked.prog 9 ++ (y2.weights Tryz.checked.prog 3 ++ (y3.weights Tryz.checked.prog 28 ++ y4.weights Tryz.checked.prog 29))) := by
  conv => lhs; rw [DataW.weights]
  rw [show Tryz.checked.prog.underlying 31 = _ from Tryz.underlying31]
  simp [DataW.weightsEach]

set_option maxRecDepth 100000 in
/-- A list of kids that was read. -/
theorem open_kids {H : Type} {enc : TypeId × Value → H} {W : World} {n : Nat} {c : Value} {x : DataW H × List MemPlace}
    (ih : ∀ m, m < n → ∀ (cs : List Value) (x : DataW H × List MemPlace), DataW.trod enc Tryz.prog W 0 (fun _ => true) true m 31 cs = some x → (∀ k ∈ x.1.weights Tryz.checked.prog 31, k ≤ 140737488351232) → ∃ T : Tr m, Tv W m T cs)
    (h : DataW.trod enc Tryz.prog W 0 (fun _ => true) true n 29 [c] = some x)
    (hz : ∀ k ∈ x.1.weights Tryz.checked.prog 29, k ≤ 140737488351232) : ∃ ko kc, ∃ ks : List (Tr n), c = .slice ko ks.length kc ∧ Kq (Tv W n) W ko ks ∧ Sl ko ks.length kc := by
  rcases DataW.trod_slice Tryz.underlying29 h with ⟨hcs, _⟩ | ⟨a, len, cap, elems, rest, m, rfl, hcs, hx, _, hl, hm, hlen, hel, hsp, hns⟩
  · cases hcs
    exact ⟨none, 0, [], rfl, ⟨by simp, fun h0 => absurd h0 (by simp)⟩, fun _ => ⟨rfl, rfl⟩, by simp, by simp⟩
  · cases hcs
    unfold maxLen at hm
    by_cases h0 : len = 0
    · subst h0
      exact ⟨some a, cap, [], rfl, ⟨by simp, fun h0 => absurd h0 (by simp)⟩, fun e => (by cases e), by simp, by simpa using hm⟩
    · have hroom : cap * 104 ≤ 140737488351232 := by
        have := hz (cap * 104) (by
          rw [hx]
          simp only [DataW.weights, show Tryz.checked.prog.underlying 29 = _ from Tryz.underlying29, List.mem_cons, bytesT]
          left
          have := (hsp rfl).1
          simp; omega)
        omega
      have hz0 : ∃ v, W.cell? ((a.add (0 * 6)).add 0) = some v := by
        have h1 := hel 0 (by omega)
        rw [List.getElem?_eq_getElem (show 0 < elems.length by omega)] at h1
        obtain ⟨cs', hc, h2⟩ := Option.bind_eq_some_iff.1 h1
        rw [cellsT] at hc
        obtain ⟨_, hlen', hg⟩ := World.cells?_some hc
        obtain ⟨c0, c1, c2, c3, c4, c5, rfl⟩ := six_of_len hlen'
        exact ⟨c0, hg 0 (by omega)⟩
      obtain ⟨b, off, spot⟩ := a
      have hspot : spot = none := by
        obtain ⟨v, hv⟩ := hz0
        simpa [Addr.add] using World.cell?_spot hv
      subst hspot
      have hq : ∀ i, i < len → ∃ T : Tr m, ∃ c0 c1 c2 c3 c4 c5, Tv W m T [c0, c1, c2, c3, c4, c5] ∧ W.cell? ⟨b, off + i * 6, none⟩ = some c0 ∧ W.cell? ⟨b, off + i * 6 + 1, none⟩ = some c1 ∧ W.cell? ⟨b, off + i * 6 + 2, none⟩ = some c2 ∧ W.cell? ⟨b, off + i * 6 + 3, none⟩ = some c3 ∧ W.cell? ⟨b, off + i * 6 + 4, none⟩ = some c4 ∧ W.cell? ⟨b, off + i * 6 + 5, none⟩ = some c5 := by
        intro i hi
        have hi' : i < elems.length := by omega
        have h1 := hel i hi
        rw [List.getElem?_eq_getElem hi'] at h1
        obtain ⟨cs', hc, h2⟩ := Option.bind_eq_some_iff.1 h1
        rw [cellsT] at hc
        obtain ⟨_, hlen', hg⟩ := World.cells?_some hc
        obtain ⟨c0, c1, c2, c3, c4, c5, rfl⟩ := six_of_len hlen'
        obtain ⟨T, hT⟩ := ih m (by omega) _ _ h2 (fun k hk => hz k (by
          rw [hx]
          simp only [DataW.weights, show Tryz.checked.prog.underlying 29 = _ from Tryz.underlying29]
          have hm' : k ∈ DataW.weightsAll Tryz.checked.prog 31 (elems.map (·.1)) := weightsAll_mem (List.mem_map.2 ⟨_, List.getElem_mem hi', rfl⟩) hk
          exact List.mem_cons_of_mem _ (List.mem_append.2 (.inl hm'))))
        have g0 := hg 0 (by omega)
        have g1 := hg 1 (by omega)
        have g2 := hg 2 (by omega)
        have g3 := hg 3 (by omega)
        have g4 := hg 4 (by omega)
        have g5 := hg 5 (by omega)
        rw [add_at, add_at] at g0 g1 g2 g3 g4 g5
        exact ⟨T, c0, c1, c2, c3, c4, c5, hT, by simpa using g0, by simpa using g1, by simpa using g2, by simpa using g3, by simpa using g4, by simpa using g5⟩
      obtain ⟨T0, _⟩ := hq 0 (by omega)
      have inh : Inhabited (Tr m) := ⟨T0⟩
      obtain ⟨f, hf⟩ := Go.Deep.choose_lt hq
      obtain ⟨c0, _, _, _, _, _, _, hc0, _⟩ := hf 0 (by omega)
      have hb : b < W.heap.size := World.block_lt_of_cell? W _ hc0
      have hL : ((List.range len).map f).length = len := by simp
      have K : Kq (Tv W m) W (some ⟨b, off, none⟩) ((List.range len).map f) := by
        refine ⟨by rw [hL]; omega, fun _ => ⟨b, off, rfl, hb, fun i y hy => ?_⟩⟩
        have hi : i < len := by
          by_cases hi : i < len
          · exact hi
          · rw [List.getElem?_eq_none (by rw [hL]; omega)] at hy; cases hy
        have ey : y = f i := by simpa [hi] using hy.symm
        subst ey
        obtain ⟨c0, c1, c2, c3, c4, c5, hp, g0, g1, g2, g3, g4, g5⟩ := hf i hi
        exact ⟨c0, c1, c2, c3, c4, c5, hp, g0, g1, g2, g3, g4, g5⟩
      refine ⟨some ⟨b, off, none⟩, cap, ((List.range len).map f).map (lft m), ?_, K.map _ (fun y v hy => hy.lft), ?_⟩
      · rw [List.length_map, hL]
      · rw [List.length_map, hL]
        exact ⟨fun e => (by cases e), hl, by omega⟩

set_option maxRecDepth 100000 in
/-- A term that was read. -/
theorem open_term {H : Type} {enc : TypeId × Value → H} {W : World} : ∀ (fuel : Nat) (cs : List Value) (x : DataW H × List MemPlace), DataW.trod enc Tryz.prog W 0 (fun _ => true) true fuel 31 cs = some x → (∀ k ∈ x.1.weights Tryz.checked.prog 31, k ≤ 140737488351232) → ∃ T : Tr fuel, Tv W fuel T cs := by
  intro fuel
  induction fuel using Nat.strongRecOn with
  | ind fuel ih =>
    intro cs x h hz
    obtain ⟨y0, y1, y2, y3, y4, n, rfl, hx, hl, h0, h1, h2, h3, h4⟩ := trod_five Tryz.underlying31 h
    rw [cellsT] at hl
    obtain ⟨c0, c1, c2, c3, c4, c5, rfl⟩ := six_of_len hl
    simp only [cellsN, cellsS, cellsK, cellsA', List.drop_zero, List.drop_succ_cons, List.take_succ_cons, List.take_zero] at h0 h1 h2 h3 h4
    have hz' := hz
    rw [hx, weights_term] at hz'
    obtain ⟨z0, e0, _, w0⟩ := DataW.trod_int Tryz.underlying3 h0
    obtain ⟨s1, e1, x1, _⟩ := DataW.trod_string Tryz.underlying9 h1
    obtain ⟨z2, e2, _, w2⟩ := DataW.trod_int Tryz.underlying3 h2
    obtain ⟨so, sn, sc, ao, an, ac, sh, at', e3, r1, s1', r2, s2'⟩ := open_arr h3 (fun k hk => hz' k (List.mem_append.2 (.inr (List.mem_append.2 (.inr (List.mem_append.2 (.inr (List.mem_append.2 (.inl hk)))))))))
    obtain ⟨ko, kc, ks, e4, hK, hS⟩ := open_kids (fun m hm => ih m (by omega)) h4 (fun k hk => hz' k (List.mem_append.2 (.inr (List.mem_append.2 (.inr (List.mem_append.2 (.inr (List.mem_append.2 (.inr hk)))))))))
    simp only [List.cons.injEq, and_true] at e0 e1 e2 e3
    obtain ⟨e3, e3'⟩ := e3
    subst e0 e1 e2 e3 e3' e4
    have w1 : s1.size ≤ 140737488355328 := by
      have q := hz' s1.data.toList.length (List.mem_append.2 (.inr (List.mem_append.2 (.inl (by rw [x1]; simp [DataW.weights])))))
      have e : s1.data.toList.length = s1.size := by rw [Array.length_toList]; rfl
      omega
    exact ⟨Tr.mk ⟨z0, s1, z2, sh, at'⟩ ks, ⟨so, sn, sc, ao, an, ac, ko, kc, rfl, r1, s1', r2, s2', hK, hS⟩, bounds_i64 w0, bounds_i64 w2, w1⟩
theorem term_of_cells {cs : Array Value} {c0 c1 c2 c3 c4 c5 : Value} (h : (Value.agg cs).cells.toList = [c0, c1, c2, c3, c4, c5]) : cs = #[c0, c1, c2, c3, c4, c5] := by
  have h' : cs.toList = [c0, c1, c2, c3, c4, c5] := h
  cases cs; simp_all
end Go.Proofs.YtiahilelcppfgaaGreat
