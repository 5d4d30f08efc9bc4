
/- It is proved that the law MoldRounds answers true for every two numbers and every array, one that may not be too, and leaves the array as it was; no condition. -/

import Derived.Test.YtpfdiammgdnhmaaGreatAOpen
import Derived.Test.YtpfdiammgdnhmaaGreatRC


namespace Go.Proofs.YtpfdiammgdnhmaaGreat.moldRounds

open Go.ChangeShapes Go.WideShapes Go.ChangeAt Go.RowKit

set_option linter.unusedVariables false

set_option maxRecDepth 100000 in
theorem lifted (os : Os) (started : os.Started) (H : Type) (enc : TypeId × Value → H) :
    ReturnsInHanded {} Tryz.checked os 6 .any (Rows.moldRoundsSpec.pre6 enc Tryz.prog Tryz.f6 Rows.moldRoundsRow.domain false) (Rows.moldRoundsSpec.post enc Tryz.prog Tryz.f6 false true false false) := by
  refine returnsInHanded_of_change_sized (C := Tryz.checked) own started (by kernel_rfl) Tryz.func6
    (ChangeSpec.witness6 (enc := enc) (C := Tryz.checked) false ⟨#[], #[.int .i64 0, .int .i64 0, .agg #[.slice none 0 0, .slice none 0 0]], []⟩ 8 (by kernel_rfl) (by kernel_rfl) (by kernel_rfl) (by kernel_rfl)) ?_
  intro W base args ds gs before hval0 hW hcnd hsz0 _
  have hval : ∀ (j : Nat) t v, Tryz.f6.params[j]? = some t → args[j]? = some v → Value.okWide Tryz.prog W .any base t v := hval0
  have hW' := hW
  obtain ⟨p, q, hA0, hV, rfl, hfz, hnd⟩ := hW
  have hA : DataW.TrodAll enc Tryz.prog W 0 (fun _ => true) true Tryz.f6.params.toList args.toList ds p := hA0
  rw [Tryz.params6] at hA hval
  obtain ⟨v0, vs0, d0, ds0, p0, q0, hargs, rfl, rfl, h0, r0⟩ := trodAll_cons hA
  obtain ⟨v1, vs1, d1, ds1, p1, q1, rfl, rfl, rfl, h1, r1⟩ := trodAll_cons r0
  obtain ⟨v2, vs2, d2, ds2, p2, q2, rfl, rfl, rfl, h2, r2⟩ := trodAll_cons r1
  obtain ⟨rfl, rfl, rfl⟩ := trodAll_nil r2
  obtain rfl : args = #[v0, v1, v2] := by cases args; simp_all
  obtain ⟨rfl, rfl⟩ := trodVars_none hV
  have hsz : (DataW.weightsEach Tryz.checked.prog [2, 2, 25] [d0, d1, d2]).all (· ≤ reachBytes) = true := hsz0
  have k0 := h0
  have lt0 : ∀ x ∈ p0, x.block < W.heap.size := by obtain ⟨m, hm⟩ := k0; exact DataW.trod_lt m _ _ _ hm
  have k1 := h1
  have lt1 : ∀ x ∈ p1, x.block < W.heap.size := by obtain ⟨m, hm⟩ := k1; exact DataW.trod_lt m _ _ _ hm
  have k2 := h2
  have lt2 : ∀ x ∈ p2, x.block < W.heap.size := by obtain ⟨m, hm⟩ := k2; exact DataW.trod_lt m _ _ _ hm
  obtain ⟨f0, g0⟩ := h0
  obtain ⟨z0, rfl⟩ := okWide_int Tryz.underlying2 (hval 0 2 v0 rfl rfl)
  obtain ⟨z', ez0, _, wz0⟩ := DataW.trod_int Tryz.underlying2 g0
  obtain rfl : z0 = z' := by simpa [Value.cells] using ez0
  have bz0 := bounds_i64 wz0
  obtain ⟨f1, g1⟩ := h1
  obtain ⟨z1, rfl⟩ := okWide_int Tryz.underlying2 (hval 1 2 v1 rfl rfl)
  obtain ⟨z', ez1, _, wz1⟩ := DataW.trod_int Tryz.underlying2 g1
  obtain rfl : z1 = z' := by simpa [Value.cells] using ez1
  have bz1 := bounds_i64 wz1
  obtain ⟨f2, g2⟩ := h2
  obtain ⟨cs2, rfl, hcs2⟩ := okWide_struct Tryz.underlying25 (hval 2 25 v2 rfl rfl)
  obtain ⟨so2, sn2, sc2, ao2, an2, ac2, sh2, at2, e2, rs2, ss2, ra2, sa2⟩ := open_arr g2 (weights_at hsz (j := 2) rfl rfl)
  obtain rfl : cs2 = #[.slice so2 sn2 sc2, .slice ao2 an2 ac2] := arr_of_cells e2
  clear hA0 hval0
  refine (rounds_walk z0 z1 so2 ao2 sn2 sc2 an2 ac2 sh2 at2 W rs2 ss2 ra2 sa2).mono fun e W' ⟨he, bel⟩ => ?_
  subst he
  exact ⟨_, rfl, _, _, _, [], _, [], hW', trodAll_mk1 (shut_bool Tryz.underlying4 _), (trodAll_cons_mk (Below.trod laidOut (by kernel_rfl) (of_decide_eq_true (by kernel_rfl)) k0 bel lt0) (trodAll_cons_mk (Below.trod laidOut (by kernel_rfl) (of_decide_eq_true (by kernel_rfl)) k1 bel lt1) (trodAll_cons_mk (Below.trod laidOut (by kernel_rfl) (of_decide_eq_true (by kernel_rfl)) k2 bel lt2) trodAll_mk0))), rfl, bel.frame _, fun h => by cases h⟩

theorem over : Rows.moldRoundsRow.holds Tryz.pinned (OpenSpec.ofChange Rows.moldRoundsSpec) :=
  OpenClaim.holds_of_wide 6 Tryz.f6 rfl rfl rfl rfl rfl rfl rfl ⟨rfl, rfl, rfl, rfl, rfl⟩ rfl rfl rfl rfl rfl (by kernel_rfl) Tryz.func6 (by kernel_rfl)
    (of_decide_eq_true (by kernel_rfl)) (by unfold Func.isWrapper; first | (rw [if_pos (by decide +kernel)]; kernel_rfl) | (rw [if_neg (by decide +kernel)]; exact ⟨rfl, rfl⟩))
    (fun os started H enc _ => lifted os started H enc)
end Go.Proofs.YtpfdiammgdnhmaaGreat.moldRounds

namespace Go.Proofs.YtpfdiammgdnhmaaGreat

theorem moldRounds_holds : Rows.MoldRoundsSaid := moldRounds.over
#print axioms moldRounds_holds

end Go.Proofs.YtpfdiammgdnhmaaGreat
