
/- The steps that were handed in, and how many and how long they are where what is handed in is of small bulk. -/

import Derived.Test.YtfbnnofmplakjaaDoorFX

namespace Go.Proofs.YtfbnnofmplakjaaDoor

open Go.RowKit Go.Extern.Stop Go.Stop Go.Extern

set_option linter.unusedVariables false

theorem bulk_mem {H : Type} {d : DataW H} {l : List (DataW H)} (h : d ∈ l) : Rows.uptoBulk d ≤ Rows.uptoBulkAll l := by
  induction l with
  | nil => cases h
  | cons x r ih =>
    simp only [Rows.uptoBulkAll]
    rcases List.mem_cons.1 h with rfl | h
    · omega
    · have := ih h; omega
theorem bulk_one {H : Type} (d : DataW H) : 1 ≤ Rows.uptoBulk d := by
  cases d with
  | lit l => cases l <;> simp [Rows.uptoBulk]
  | _ => simp [Rows.uptoBulk]
theorem bulk_len {H : Type} (l : List (DataW H)) : l.length ≤ Rows.uptoBulkAll l := by
  induction l with
  | nil => simp
  | cons x r ih => have := bulk_one x; simp only [Rows.uptoBulkAll, List.length_cons]; omega
/-- The steps that were handed in. -/
theorem open_steps_bulk {H : Type} {enc : TypeId × Value → H} {W : World} {fuel : Nat} {v : Value} {x : DataW H × List MemPlace} (h : DataW.trod enc Tryd.prog W 0 (fun _ => true) true fuel 23 v.cells.toList = some x) (hv : ∃ a len cap, v = .slice a len cap)
    (hz : ∀ n ∈ x.1.weights Tryd.checked.prog 23, n ≤ 140737488351232) (hu : Rows.uptoBulk x.1 ≤ 1048576) : ∃ so N cap xs, v = .slice so N cap ∧ Sp W so N xs ∧ N ≤ 1048576 ∧ ∀ y ∈ xs, y.2.length ≤ 1048576 := by
  obtain ⟨a0, len0, cap0, rfl⟩ := hv
  rcases Go.Deep.open_slice_pairs Tryd.underlying23 Tryd.underlying35 (by kernel_rfl) rfl rfl (by kernel_rfl) (by kernel_rfl) h with ⟨hcs, _⟩ | ⟨a, len, cap, m, n, V0, V1, D0, D1, P0, P1, hcs, _, hl, hm, hmm, hx, hel⟩
  · simp [Value.cells] at hcs
    obtain ⟨rfl, rfl, rfl⟩ := hcs
    exact ⟨_, _, _, [], rfl, sp_nil _ _, by omega, fun y hy => absurd hy (by simp)⟩
  · simp [Value.cells] at hcs
    obtain ⟨rfl, rfl, rfl⟩ := hcs
    simp at hmm
    subst hmm
    have hroom : len0 * 24 ≤ 140737488351232 := by
      have := hz (m * 24) (by rw [hx]; simp only [DataW.weights, und23, List.mem_cons, bytes35]; left; simp; omega)
      omega
    have hq : ∀ i, i < len0 → ∃ q : Int × List UInt8, V0 i = .int .i64 q.1 ∧ V1 i = .string ⟨q.2.toArray⟩ ∧ q.2.length ≤ 140737488351232 ∧ q.2.length ≤ 1048576 := by
      intro i hi
      obtain ⟨_, _, t0, t1⟩ := hel i (by omega)
      obtain ⟨z, e0, _, _⟩ := DataW.trod_int Tryd.underlying3 t0
      obtain ⟨s, e1, e2, _⟩ := DataW.trod_string Tryd.underlying9 t1
      simp at e0 e1
      refine ⟨(z, s.data.toList), e0, by rw [e1], ?_, ?_⟩
      rotate_left 1
      · have hD : D1 i = .lit (.string s.data.toList) := congrArg Prod.fst e2
        have hm : DataW.agg [D0 i, D1 i] ∈ (List.range len0).map fun i => DataW.agg [D0 i, D1 i] := List.mem_map.2 ⟨i, List.mem_range.2 hi, rfl⟩
        have h1 := bulk_mem hm
        rw [hx] at hu
        simp only [Rows.uptoBulk] at hu
        simp only [Rows.uptoBulk, Rows.uptoBulkAll, hD] at h1
        simp only [] at h1 ⊢
        omega
      have hD : D1 i = .lit (.string s.data.toList) := congrArg Prod.fst e2
      have hw : s.data.toList.length ∈ (DataW.agg [D0 i, D1 i]).weights Tryd.checked.prog 35 := by
        rw [weights_step, hD]
        exact List.mem_append.2 (.inr (by simp [DataW.weights]))
      refine hz _ ?_
      rw [hx]
      simp only [DataW.weights, und23]
      exact List.mem_cons_of_mem _ (List.mem_append.2 (.inl (weightsAll_mem (List.mem_map.2 ⟨i, List.mem_range.2 hi, rfl⟩) hw)))
    have inh : Inhabited (Int × List UInt8) := ⟨(0, [])⟩
    obtain ⟨f, hf⟩ := Go.Deep.choose_lt hq
    have hn : len0 ≤ 1048576 := by
      rw [hx] at hu
      simp only [Rows.uptoBulk] at hu
      have h1 := bulk_len ((List.range len0).map fun i => DataW.agg [D0 i, D1 i])
      simp only [List.length_map, List.length_range] at h1
      omega
    refine ⟨_, _, _, (List.range len0).map f, rfl, ⟨by simp, hroom, ?_, ?_⟩, hn, fun y hy => by obtain ⟨i, hi, rfl⟩ := List.mem_map.1 hy; exact (hf i (List.mem_range.1 hi)).2.2.2⟩
    · intro y hy
      obtain ⟨i, hi, rfl⟩ := List.mem_map.1 hy
      exact (hf i (List.mem_range.1 hi)).2.2.1
    · intro h0
      obtain ⟨b, off, spot⟩ := a
      have hzz := (hel 0 (by omega)).1
      have hspot : spot = none := by simpa [Addr.add] using World.cell?_spot hzz
      subst hspot
      have hb : b < W.heap.size := by
        have hbb := World.block_lt_of_cell? W _ hzz
        rw [add_at'] at hbb
        exact hbb
      refine ⟨b, off, rfl, hb, fun k y hy => ?_⟩
      have hk : k < len0 := by
        have := (List.getElem?_eq_some_iff.1 hy).1
        simpa using this
      have hfk : y = f k := by
        rw [List.getElem?_map, List.getElem?_range hk] at hy
        simpa using hy.symm
      obtain ⟨c0, c1, _, _⟩ := hel k (by omega)
      rw [add_at'] at c0 c1
      subst hfk
      rw [(hf k hk).1] at c0
      rw [(hf k hk).2.1] at c1
      exact ⟨c0, by rw [Nat.add_assoc]; exact c1⟩
end Go.Proofs.YtfbnnofmplakjaaDoor
