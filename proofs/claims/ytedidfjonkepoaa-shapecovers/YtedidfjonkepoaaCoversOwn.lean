/- It is proved that the law ShapeCovers answers true for every list of lists of numbers, and leaves it as it was; no condition. -/
import Derived.Test.YtedidfjonkepoaaCovers3
namespace Go.Proofs.Ytedidfjonkepoaa.shapeCovers
open Go.ChangeShapes Go.WideShapes Go.ChangeAt Go.RowKit
set_option linter.unusedVariables false

theorem weightsAll_mem {H : Type} {P : Program} {e : TypeId} {d : DataW H} {n : Nat} (hn : n ∈ d.weights P e) : ∀ {l : List (DataW H)}, d ∈ l → n ∈ DataW.weightsAll P e l
  | x :: l, h => by
    simp only [DataW.weightsAll, List.mem_append]
    rcases List.mem_cons.1 h with rfl | h
    · exact .inl hn
    · exact .inr (weightsAll_mem hn h)

set_option maxRecDepth 100000 in
theorem lifted (os : Os) (started : os.Started) (H : Type) (enc : TypeId × Value → H) :
    ReturnsInHanded {} Try.checked os 7 .any (Rows.shapeCoversSpec.pre6 enc Try.prog Try.f7 Rows.shapeCoversRow.domain false) (Rows.shapeCoversSpec.post enc Try.prog Try.f7 false true false false) := by
  refine returnsInHanded_of_change_sized (C := Try.checked) own started (by kernel_rfl) Try.func7
    (ChangeSpec.witness6 (enc := enc) (C := Try.checked) false ⟨#[], #[.slice none 0 0], []⟩ 8 (by kernel_rfl) (by kernel_rfl) (by kernel_rfl) (by kernel_rfl)) ?_
  intro W base args ds gs before hval0 hW hcnd hsz0 _
  have hval : ∀ (j : Nat) t v, Try.f7.params[j]? = some t → args[j]? = some v → Value.okWide Try.prog W .any base t v := hval0
  have hW' := hW
  obtain ⟨p, q, hA0, hV, rfl, hfz, hnd⟩ := hW
  have hA : DataW.TrodAll enc Try.prog W 0 (fun _ => true) true Try.f7.params.toList args.toList ds p := hA0
  rw [Try.params7] at hA hval
  obtain ⟨v0, vs0, d0, ds0, p0, q0, hargs, rfl, rfl, h0, r0⟩ := trodAll_cons hA
  obtain ⟨rfl, rfl, rfl⟩ := trodAll_nil r0
  obtain rfl : args = #[v0] := by cases args; simp_all
  obtain ⟨rfl, rfl⟩ := trodVars_none hV
  have hsz : (DataW.weightsEach Try.checked.prog [29] [d0]).all (· ≤ reachBytes) = true := hsz0
  obtain ⟨a0, l0, c0, rfl⟩ := okWide_slice Try.underlying29 (hval 0 29 v0 rfl rfl)
  have k0 := h0
  have lt0 : ∀ x ∈ p0, x.block < W.heap.size := by obtain ⟨m, hm⟩ := k0; exact DataW.trod_lt m _ _ _ hm
  obtain ⟨f0, g0⟩ := h0
  clear hA0 hval0
  obtain ⟨zss, rz, s1, s2, s3⟩ := open_lists g0 (fun el sp e => by
    have e' : d0 = .slice el sp := e
    refine ⟨?_, fun d hd el2 sp2 ed => ?_⟩
    · have := sized_slice hsz (j := 0) (t := 29) (e := 25) rfl (by rw [e']; rfl) Try.underlying29
      rw [bytes25] at this
      simpa [reachBytes] using this
    · have hm : (el2.length + sp2.length) * Try.checked.prog.bytesOf 3 ∈ DataW.weightsEach Try.checked.prog [29] [d0] := by
        refine DataW.weights_mem_each (j := 0) (t := 29) (d := d0) rfl rfl _ ?_
        have hu : Try.checked.prog.underlying 29 = some (.slice 25) := Try.underlying29
        have hu2 : Try.checked.prog.underlying 25 = some (.slice 3) := Try.underlying25
        rw [e']
        simp only [DataW.weights, hu, List.mem_cons, List.mem_append]
        refine .inr (.inl (weightsAll_mem ?_ hd))
        rw [ed]
        simp [DataW.weights, hu2]
      have := of_decide_eq_true (List.all_eq_true.1 hsz _ hm)
      rw [bytes3] at this
      simpa [reachBytes] using this)
  refine (covers_walk a0 l0 c0 zss W rz s1 s2 s3).mono fun e W' ⟨he, bel⟩ => ?_
  subst he
  exact ⟨_, rfl, _, _, _, [], _, [], hW', trodAll_mk1 (shut_bool Try.underlying4 _), (trodAll_cons_mk (Below.trod laidOut (by kernel_rfl) (of_decide_eq_true (by kernel_rfl)) k0 bel lt0) trodAll_mk0), rfl, bel.frame _, fun h => by cases h⟩

theorem over : Rows.shapeCoversRow.holds Try.pinned (OpenSpec.ofChange Rows.shapeCoversSpec) :=
  OpenClaim.holds_of_wide 7 Try.f7 rfl rfl rfl rfl rfl rfl rfl ⟨rfl, rfl, rfl, rfl, rfl⟩ rfl rfl rfl rfl rfl (by kernel_rfl) Try.func7 (by kernel_rfl)
    (of_decide_eq_true (by kernel_rfl)) (by unfold Func.isWrapper; first | (rw [if_pos (by decide +kernel)]; kernel_rfl) | (rw [if_neg (by decide +kernel)]; exact ⟨rfl, rfl⟩))
    (fun os started H enc _ => lifted os started H enc)
end Go.Proofs.Ytedidfjonkepoaa.shapeCovers
namespace Go.Proofs.Ytedidfjonkepoaa
theorem shapeCovers_holds : Rows.ShapeCoversSaid := shapeCovers.over
#print axioms shapeCovers_holds
end Go.Proofs.Ytedidfjonkepoaa
