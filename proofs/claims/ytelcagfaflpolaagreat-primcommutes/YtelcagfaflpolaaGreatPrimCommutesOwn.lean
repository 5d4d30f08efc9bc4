
/- It is proved that the law PrimCommutes answers true for every number of a primitive, one that is none too, and every two arrays, those that may not be too, and leaves both as they were; no condition. -/

import Derived.Test.YtelcagfaflpolaaGreatAOpen
import Derived.Test.YtelcagfaflpolaaGreatPN


namespace Go.Proofs.YtelcagfaflpolaaGreat.primCommutes

open Go.ChangeShapes Go.WideShapes Go.ChangeAt Go.RowKit

set_option linter.unusedVariables false

set_option maxRecDepth 100000 in
theorem lifted (os : Os) (started : os.Started) (H : Type) (enc : TypeId × Value → H) :
    ReturnsInHanded {} Tryz.checked os 6 .any (Rows.primCommutesSpec.pre6 enc Tryz.prog Tryz.f6 Rows.primCommutesRow.domain false) (Rows.primCommutesSpec.post enc Tryz.prog Tryz.f6 false true false false) := by
  refine returnsInHanded_of_change_sized (C := Tryz.checked) own started (by kernel_rfl) Tryz.func6
    (ChangeSpec.witness6 (enc := enc) (C := Tryz.checked) false ⟨#[], #[.int .i64 0, .agg #[.slice none 0 0, .slice none 0 0], .agg #[.slice none 0 0, .slice none 0 0]], []⟩ 8 (by kernel_rfl) (by kernel_rfl) (by kernel_rfl) (by kernel_rfl)) ?_
  intro W base args ds gs before hval0 hW hcnd hsz0 _
  have hval : ∀ (j : Nat) t v, Tryz.f6.params[j]? = some t → args[j]? = some v → Value.okWide Tryz.prog W .any base t v := hval0
  have hW' := hW
  obtain ⟨p, q, hA0, hV, rfl, hfz, hnd⟩ := hW
  have hA : DataW.TrodAll enc Tryz.prog W 0 (fun _ => true) true Tryz.f6.params.toList args.toList ds p := hA0
  rw [Tryz.params6] at hA hval
  obtain ⟨v0, vs0, d0, ds0, p0, q0, hargs, rfl, rfl, h0, r0⟩ := trodAll_cons hA
  obtain ⟨v1, vs1, d1, ds1, p1, q1, rfl, rfl, rfl, h1, r1⟩ := trodAll_cons r0
  obtain ⟨v2, vs2, d2, ds2, p2, q2, rfl, rfl, rfl, h2, r2⟩ := trodAll_cons r1
  obtain ⟨rfl, rfl, rfl⟩ := trodAll_nil r2
  obtain rfl : args = #[v0, v1, v2] := by cases args; simp_all
  obtain ⟨rfl, rfl⟩ := trodVars_none hV
  have hsz : (DataW.weightsEach Tryz.checked.prog [3, 36, 36] [d0, d1, d2]).all (· ≤ reachBytes) = true := hsz0
  have k0 := h0
  have lt0 : ∀ x ∈ p0, x.block < W.heap.size := by obtain ⟨m, hm⟩ := k0; exact DataW.trod_lt m _ _ _ hm
  have k1 := h1
  have lt1 : ∀ x ∈ p1, x.block < W.heap.size := by obtain ⟨m, hm⟩ := k1; exact DataW.trod_lt m _ _ _ hm
  have k2 := h2
  have lt2 : ∀ x ∈ p2, x.block < W.heap.size := by obtain ⟨m, hm⟩ := k2; exact DataW.trod_lt m _ _ _ hm
  obtain ⟨f0, g0⟩ := h0
  obtain ⟨z0, rfl⟩ := okWide_int Tryz.underlying3 (hval 0 3 v0 rfl rfl)
  obtain ⟨z', ez0, _, wz0⟩ := DataW.trod_int Tryz.underlying3 g0
  obtain rfl : z0 = z' := by simpa [Value.cells] using ez0
  have bz0 := bounds_i64 wz0
  obtain ⟨f1, g1⟩ := h1
  obtain ⟨cs1, rfl, hcs1⟩ := okWide_struct Tryz.underlying36 (hval 1 36 v1 rfl rfl)
  obtain ⟨so1, sn1, sc1, ao1, an1, ac1, sh1, at1, e1, rs1, ss1, ra1, sa1⟩ := open_arr g1 (weights_at hsz (j := 1) rfl rfl)
  obtain rfl : cs1 = #[.slice so1 sn1 sc1, .slice ao1 an1 ac1] := arr_of_cells e1
  obtain ⟨f2, g2⟩ := h2
  obtain ⟨cs2, rfl, hcs2⟩ := okWide_struct Tryz.underlying36 (hval 2 36 v2 rfl rfl)
  obtain ⟨so2, sn2, sc2, ao2, an2, ac2, sh2, at2, e2, rs2, ss2, ra2, sa2⟩ := open_arr g2 (weights_at hsz (j := 2) rfl rfl)
  obtain rfl : cs2 = #[.slice so2 sn2 sc2, .slice ao2 an2 ac2] := arr_of_cells e2
  clear hA0 hval0
  refine (comm_walk so1 ao1 sn1 sc1 an1 ac1 so2 ao2 sn2 sc2 an2 ac2 sh1 at1 sh2 at2 W rs1 ss1 ra1 sa1 rs2 ss2 ra2 sa2 z0).mono fun e W' ⟨he, bel⟩ => ?_
  subst he
  exact ⟨_, rfl, _, _, _, [], _, [], hW', trodAll_mk1 (shut_bool Tryz.underlying4 _), (trodAll_cons_mk (Below.trod laidOut (by kernel_rfl) (of_decide_eq_true (by kernel_rfl)) k0 bel lt0) (trodAll_cons_mk (Below.trod laidOut (by kernel_rfl) (of_decide_eq_true (by kernel_rfl)) k1 bel lt1) (trodAll_cons_mk (Below.trod laidOut (by kernel_rfl) (of_decide_eq_true (by kernel_rfl)) k2 bel lt2) trodAll_mk0))), rfl, bel.frame _, fun h => by cases h⟩

theorem over : Rows.primCommutesRow.holds Tryz.pinned (OpenSpec.ofChange Rows.primCommutesSpec) :=
  OpenClaim.holds_of_wide 6 Tryz.f6 rfl rfl rfl rfl rfl rfl rfl ⟨rfl, rfl, rfl, rfl, rfl⟩ rfl rfl rfl rfl rfl (by kernel_rfl) Tryz.func6 (by kernel_rfl)
    (of_decide_eq_true (by kernel_rfl)) (by unfold Func.isWrapper; first | (rw [if_pos (by decide +kernel)]; kernel_rfl) | (rw [if_neg (by decide +kernel)]; exact ⟨rfl, rfl⟩))
    (fun os started H enc _ => lifted os started H enc)
end Go.Proofs.YtelcagfaflpolaaGreat.primCommutes

namespace Go.Proofs.YtelcagfaflpolaaGreat

theorem primCommutes_holds : Rows.PrimCommutesSaid := primCommutes.over
#print axioms primCommutes_holds

end Go.Proofs.YtelcagfaflpolaaGreat
