
/- What the listed variables of Go's own library give; the steps are read. -/

import Derived.Test.YtfbnnofmplakjaaDoorFR0

import Derived.Test.YtfbnnofmplakjaaDoorRows

import Derived.ProofKit

import Derived.LaidMore

import Derived.LaidHandle

import Derived.OpenShut

import Derived.Stop.Joined

import Derived.Lib.LaidTab

import Derived.Stop.LaidErr

import Derived.Deep.SlicePairs

import Derived.SizedLaws

namespace Go.Proofs.YtfbnnofmplakjaaDoor

open Go.ChangeShapes Go.WideShapes Go.ChangeAt Go.RowKit

set_option linter.unusedVariables false

theorem own : ownKnob Tryd.prog.godebug = none := by kernel_rfl
theorem laidOut : laidOutB Tryd.prog = true := by kernel_rfl
theorem gTab : Tryd.prog.globalNamed "internal/strconv.uint64pow10" = some 1 := by kernel_rfl
theorem tTab : (Tryd.prog.globals[1]?).map (·.type) = some 114 := by kernel_rfl
theorem cellsE : Tryd.prog.cellsOf 106 = 1 := by kernel_rfl
theorem cellsT : Tryd.prog.cellsOf 114 = 20 := by kernel_rfl
theorem rt_is : (Tryd.prog.cutTypes.find? (·.1 == "internal/reflectlite.rtype")).map (·.2) = some 87 := by kernel_rfl
theorem oneRow : ((List.range 158).filter fun t => Tryd.prog.rowNamed t [101, 114, 114, 111, 114]) = [26] := by kernel_rfl
theorem tsize : Tryd.prog.types.size = 158 := by kernel_rfl
def laid4 : List (String × DataW Unit) := [("math/bits.deBruijn32tab", Rows.laid_math_bits_deBruijn32tab), ("math/bits.deBruijn64tab", Rows.laid_math_bits_deBruijn64tab), ("internal/strconv.uint64pow10", Rows.laid_internal_strconv_uint64pow10), ("errors.errorType", Rows.laid_errors_errorType)]
theorem door_met (os : Os) (args : Array Value) : laidMetH Tryd.prog laid4 ((World.doorLaid Tryd.prog 400 os).forCall (fun _ _ => 0) ⟨#[], args, []⟩).memory :=
  laidMetH_of_parts3 (fuel := 8) (laidMet_of_run' 8 (by kernel_rfl) (by kernel_rfl)) (by kernel_rfl) (by kernel_rfl)
theorem tb_of_laid {W : World} (h : laidMetH Tryd.prog laid4 W) : Tb W := by
  have h' : laidMet Tryd.prog [("math/bits.deBruijn32tab", Rows.laid_math_bits_deBruijn32tab), ("math/bits.deBruijn64tab", Rows.laid_math_bits_deBruijn64tab), ("internal/strconv.uint64pow10", Lib.tabData .u64 Lib.pow10Tab)] W ∧ handlesMet Tryd.prog [("errors.errorType", Rows.laid_errors_errorType)] W := h
  refine ⟨Lib.tabIs_of_head gTab tTab Tryd.underlying114 Tryd.underlying106 cellsE cellsT h'.1.tail.tail, ?_⟩
  obtain ⟨name, u, ty, e1, e2, e3, e4, e5⟩ := h'.2 _ (List.mem_singleton.2 rfl)
  have en : name = [101, 114, 114, 111, 114] := (Option.some.inj e1).symm
  subst en
  obtain rfl := Option.some.inj (rt_is.symm.trans e2)
  have hm : ty ∈ (List.range 158).filter fun t => Tryd.prog.rowNamed t [101, 114, 114, 111, 114] := List.mem_filter.2 ⟨List.mem_range.2 (by rw [← tsize]; exact e3), e4⟩
  rw [oneRow] at hm
  obtain rfl := List.mem_singleton.1 hm
  have hh : typeHandle Tryd.prog 26 = .pointer (some ⟨4, 26, none⟩) := by kernel_rfl
  rw [hh] at e5
  exact e5

theorem weights_at {H : Type} {ts : List TypeId} {ds : List (DataW H)} (h : (DataW.weightsEach Tryd.checked.prog ts ds).all (· ≤ reachBytes) = true) {j : Nat} {t : TypeId} {d : DataW H} (ht : ts[j]? = some t) (hd : ds[j]? = some d) : ∀ n ∈ d.weights Tryd.checked.prog t, n ≤ 140737488351232 := by
  intro n hn
  have h2 : decide (n ≤ reachBytes) = true := List.all_eq_true.1 h _ (DataW.weights_mem_each ht hd n hn)
  have h3 := of_decide_eq_true h2
  unfold reachBytes at h3
  exact h3
theorem weightsAll_mem {H : Type} {P : Program} {e : TypeId} {ds : List (DataW H)} {d : DataW H} {n : Nat} (hd : d ∈ ds) (hn : n ∈ d.weights P e) : n ∈ DataW.weightsAll P e ds := by
  induction ds with
  | nil => cases hd
  | cons x xs ih =>
    rw [DataW.weightsAll, List.mem_append]
    rcases List.mem_cons.1 hd with rfl | h
    · exact .inl hn
    · exact .inr (ih h)
theorem add_at' (b off i : Nat) : (⟨b, off, none⟩ : Addr).add i = ⟨b, off + i, none⟩ := by unfold Addr.add; split <;> simp_all
theorem bytes35 : Tryd.checked.prog.bytesOf 35 = 24 := by kernel_rfl
theorem und23 : Tryd.checked.prog.underlying 23 = some (.slice 35) := by kernel_rfl
theorem weights_step {H : Type} (y0 y1 : DataW H) : (DataW.agg [y0, y1]).weights Tryd.checked.prog 35 = y0.weights Tryd.checked.prog 3 ++ y1.weights Tryd.checked.prog 9 := by
  conv => lhs; rw [DataW.weights]
  rw [show Tryd.checked.prog.underlying 35 = _ from Tryd.underlying35]
  simp [DataW.weightsEach]
theorem sp_nil (W : World) (so : Option Addr) : Sp W so 0 [] := ⟨rfl, by omega, fun x hx => absurd hx (by simp), fun h => absurd h (by omega)⟩
/-- The steps that were handed in. -/
theorem open_steps {H : Type} {enc : TypeId × Value → H} {W : World} {fuel : Nat} {v : Value} {x : DataW H × List MemPlace} (h : DataW.trod enc Tryd.prog W 0 (fun _ => true) true fuel 23 v.cells.toList = some x) (hv : ∃ a len cap, v = .slice a len cap)
    (hz : ∀ n ∈ x.1.weights Tryd.checked.prog 23, n ≤ 140737488351232) : ∃ so N cap xs, v = .slice so N cap ∧ Sp W so N xs := by
  obtain ⟨a0, len0, cap0, rfl⟩ := hv
  rcases Go.Deep.open_slice_pairs Tryd.underlying23 Tryd.underlying35 (by kernel_rfl) rfl rfl (by kernel_rfl) (by kernel_rfl) h with ⟨hcs, _⟩ | ⟨a, len, cap, m, n, V0, V1, D0, D1, P0, P1, hcs, _, hl, hm, hmm, hx, hel⟩
  · simp [Value.cells] at hcs
    obtain ⟨rfl, rfl, rfl⟩ := hcs
    exact ⟨_, _, _, [], rfl, sp_nil _ _⟩
  · simp [Value.cells] at hcs
    obtain ⟨rfl, rfl, rfl⟩ := hcs
    simp at hmm
    subst hmm
    have hroom : len0 * 24 ≤ 140737488351232 := by
      have := hz (m * 24) (by rw [hx]; simp only [DataW.weights, und23, List.mem_cons, bytes35]; left; simp; omega)
      omega
    have hq : ∀ i, i < len0 → ∃ q : Int × List UInt8, V0 i = .int .i64 q.1 ∧ V1 i = .string ⟨q.2.toArray⟩ ∧ q.2.length ≤ 140737488351232 := by
      intro i hi
      obtain ⟨_, _, t0, t1⟩ := hel i (by omega)
      obtain ⟨z, e0, _, _⟩ := DataW.trod_int Tryd.underlying3 t0
      obtain ⟨s, e1, e2, _⟩ := DataW.trod_string Tryd.underlying9 t1
      simp at e0 e1
      refine ⟨(z, s.data.toList), e0, by rw [e1], ?_⟩
      have hD : D1 i = .lit (.string s.data.toList) := congrArg Prod.fst e2
      have hw : s.data.toList.length ∈ (DataW.agg [D0 i, D1 i]).weights Tryd.checked.prog 35 := by
        rw [weights_step, hD]
        exact List.mem_append.2 (.inr (by simp [DataW.weights]))
      refine hz _ ?_
      rw [hx]
      simp only [DataW.weights, und23]
      exact List.mem_cons_of_mem _ (List.mem_append.2 (.inl (weightsAll_mem (List.mem_map.2 ⟨i, List.mem_range.2 hi, rfl⟩) hw)))
    have inh : Inhabited (Int × List UInt8) := ⟨(0, [])⟩
    obtain ⟨f, hf⟩ := Go.Deep.choose_lt hq
    refine ⟨_, _, _, (List.range len0).map f, rfl, by simp, hroom, ?_, ?_⟩
    · intro y hy
      obtain ⟨i, hi, rfl⟩ := List.mem_map.1 hy
      exact (hf i (List.mem_range.1 hi)).2.2
    · intro h0
      obtain ⟨b, off, spot⟩ := a
      have hzz := (hel 0 (by omega)).1
      have hspot : spot = none := by simpa [Addr.add] using World.cell?_spot hzz
      subst hspot
      have hb : b < W.heap.size := by
        have hbb := World.block_lt_of_cell? W _ hzz
        rw [add_at'] at hbb
        exact hbb
      refine ⟨b, off, rfl, hb, fun k y hy => ?_⟩
      have hk : k < len0 := by
        have := (List.getElem?_eq_some_iff.1 hy).1
        simpa using this
      have hfk : y = f k := by
        rw [List.getElem?_map, List.getElem?_range hk] at hy
        simpa using hy.symm
      obtain ⟨c0, c1, _, _⟩ := hel k (by omega)
      rw [add_at'] at c0 c1
      subst hfk
      rw [(hf k hk).1] at c0
      rw [(hf k hk).2.1] at c1
      exact ⟨c0, by rw [Nat.add_assoc]; exact c1⟩
end Go.Proofs.YtfbnnofmplakjaaDoor
