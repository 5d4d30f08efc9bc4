/- It is proved that the law ShapeThere answers true for every shape and every list of indices, and leaves both as they were; no condition. -/
import Derived.Test.YtedidfjonkepoaaOpened
import Derived.Test.YtedidfjonkepoaaThere2
import Derived.Test.YtedidfjonkepoaaThere3
namespace Go.Proofs.Ytedidfjonkepoaa.shapeThere
open Go.ChangeShapes Go.WideShapes Go.ChangeAt Go.RowKit
set_option linter.unusedVariables false

set_option maxRecDepth 100000 in
theorem lifted (os : Os) (started : os.Started) (H : Type) (enc : TypeId × Value → H) :
    ReturnsInHanded {} Try.checked os 5 .any (Rows.shapeThereSpec.pre6 enc Try.prog Try.f5 Rows.shapeThereRow.domain false) (Rows.shapeThereSpec.post enc Try.prog Try.f5 false true false false) := by
  refine returnsInHanded_of_change_sized (C := Try.checked) own started (by kernel_rfl) Try.func5
    (ChangeSpec.witness6 (enc := enc) (C := Try.checked) false ⟨#[], #[.slice none 0 0, .slice none 0 0], []⟩ 8 (by kernel_rfl) (by kernel_rfl) (by kernel_rfl) (by kernel_rfl)) ?_
  intro W base args ds gs before hval0 hW hcnd hsz0 _
  have hval : ∀ (j : Nat) t v, Try.f5.params[j]? = some t → args[j]? = some v → Value.okWide Try.prog W .any base t v := hval0
  have hW' := hW
  obtain ⟨p, q, hA0, hV, rfl, hfz, hnd⟩ := hW
  have hA : DataW.TrodAll enc Try.prog W 0 (fun _ => true) true Try.f5.params.toList args.toList ds p := hA0
  rw [Try.params5] at hA hval
  obtain ⟨v0, vs0, d0, ds0, p0, q0, hargs, rfl, rfl, h0, r0⟩ := trodAll_cons hA
  obtain ⟨v2, vs2, d2, ds2, p2, q2, rfl, rfl, rfl, h2, r2⟩ := trodAll_cons r0
  obtain ⟨rfl, rfl, rfl⟩ := trodAll_nil r2
  obtain rfl : args = #[v0, v2] := by cases args; simp_all
  obtain ⟨rfl, rfl⟩ := trodVars_none hV
  have hsz : (DataW.weightsEach Try.checked.prog [25, 25] [d0, d2]).all (· ≤ reachBytes) = true := hsz0
  obtain ⟨a0, l0, c0, rfl⟩ := okWide_slice Try.underlying25 (hval 0 25 v0 rfl rfl)
  obtain ⟨a2, l2, c2, rfl⟩ := okWide_slice Try.underlying25 (hval 1 25 v2 rfl rfl)
  have k0 := h0
  have k2 := h2
  have lt0 : ∀ x ∈ p0, x.block < W.heap.size := by obtain ⟨m, hm⟩ := k0; exact DataW.trod_lt m _ _ _ hm
  have lt2 : ∀ x ∈ p2, x.block < W.heap.size := by obtain ⟨m, hm⟩ := k2; exact DataW.trod_lt m _ _ _ hm
  obtain ⟨f0, g0⟩ := h0
  obtain ⟨f2, g2⟩ := h2
  clear hA0 hval0
  obtain ⟨zs, rz, sz⟩ := open_list g0 (fun el sp e => by
    have e' : d0 = .slice el sp := e
    have := sized_slice hsz (j := 0) (t := 25) (e := 3) rfl (by rw [e']; rfl) Try.underlying25
    rw [bytes3] at this
    simpa [reachBytes] using this)
  obtain ⟨ys, ry, sy⟩ := open_list g2 (fun el sp e => by
    have e' : d2 = .slice el sp := e
    have := sized_slice hsz (j := 1) (t := 25) (e := 3) rfl (by rw [e']; rfl) Try.underlying25
    rw [bytes3] at this
    simpa [reachBytes] using this)
  have hw : Calls Try.prog 5 #[.slice a0 l0 c0, .slice a2 l2 c2] W fun e w' => e = .returned (.bool true) ∧ Below W.heap.size W w' := by
    by_cases hm : mayF zs = 0
    · exact there_yes a0 a2 l0 c0 l2 c2 zs ys W rz ry hm
    · exact there_no a0 a2 l0 c0 l2 c2 zs ys W rz ry hm
  refine hw.mono fun e W' ⟨he, bel⟩ => ?_
  subst he
  exact ⟨_, rfl, _, _, _, [], _, [], hW', trodAll_mk1 (shut_bool Try.underlying4 _), (trodAll_cons_mk (Below.trod laidOut (by kernel_rfl) (of_decide_eq_true (by kernel_rfl)) k0 bel lt0) (trodAll_cons_mk (Below.trod laidOut (by kernel_rfl) (of_decide_eq_true (by kernel_rfl)) k2 bel lt2) trodAll_mk0)), rfl, bel.frame _, fun h => by cases h⟩

theorem over : Rows.shapeThereRow.holds Try.pinned (OpenSpec.ofChange Rows.shapeThereSpec) :=
  OpenClaim.holds_of_wide 5 Try.f5 rfl rfl rfl rfl rfl rfl rfl ⟨rfl, rfl, rfl, rfl, rfl⟩ rfl rfl rfl rfl rfl (by kernel_rfl) Try.func5 (by kernel_rfl)
    (of_decide_eq_true (by kernel_rfl)) (by unfold Func.isWrapper; first | (rw [if_pos (by decide +kernel)]; kernel_rfl) | (rw [if_neg (by decide +kernel)]; exact ⟨rfl, rfl⟩))
    (fun os started H enc _ => lifted os started H enc)
end Go.Proofs.Ytedidfjonkepoaa.shapeThere
namespace Go.Proofs.Ytedidfjonkepoaa
theorem shapeThere_holds : Rows.ShapeThereSaid := shapeThere.over
#print axioms shapeThere_holds
end Go.Proofs.Ytedidfjonkepoaa
