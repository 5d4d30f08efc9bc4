
/- It is proved that the law TermShared answers true for every kind, every leaf and every number of levels, and leaves the leaf as it was; no condition. -/

import Derived.Test.YtiahilelcppfgaaGreatUD

import Derived.Test.YtiahilelcppfgaaGreatTZ

import Derived.Test.YtiahilelcppfgaaGreatOA

import Derived.Test.YtiahilelcppfgaaGreatTO2

namespace Go.Proofs.YtiahilelcppfgaaGreat

open Go.RowKit

set_option linter.unusedVariables false

theorem box6_row (V : World) (g : Nat) (z0 z1 z2 z3 z4 z5 v0 v1 v2 v3 v4 v5 : Value) (T : TypeId) (h : V.heap[g]? = some (.cells #[z0, z1, z2, z3, z4, z5] T (0, 0))) :
    ((((((V.setCell ⟨g, 0, none⟩ (v0)).setCell ⟨g, 1, none⟩ (v1)).setCell ⟨g, 2, none⟩ (v2)).setCell ⟨g, 3, none⟩ (v3)).setCell ⟨g, 4, none⟩ (v4)).setCell ⟨g, 5, none⟩ (v5)).heap[g]? = some (.cells #[v0, v1, v2, v3, v4, v5] T (0, 0)) := by
  have R := W6_row 0 v0 v1 v2 v3 v4 v5 h
  rw [set6_all, W6_zero] at R
  exact R
theorem kq_two (V : World) (b : Nat) (d : Nat) (x : Tr d) (a0 a1 a2 a3 a4 a5 : Value) (hx : Tv V d x [a0, a1, a2, a3, a4, a5]) (h : V.heap[b]? = some (.cells #[a0, a1, a2, a3, a4, a5, a0, a1, a2, a3, a4, a5] 31 (0, 0))) : Kq (Tv V d) V (some ⟨b, 0, none⟩) [x, x] := by
  have at' : ∀ j v, (#[a0, a1, a2, a3, a4, a5, a0, a1, a2, a3, a4, a5] : Array Value)[j]? = some v → V.cell? ⟨b, j, none⟩ = some v := fun j v e => (cell_of_row V b j _ _ _ h).trans e
  refine ⟨by show 2 * 104 ≤ _; omega, fun _ => ⟨b, 0, rfl, (Array.getElem?_eq_some_iff.1 h).1, fun i u hu => ?_⟩⟩
  match i, hu with
  | 0, hu =>
    injection hu with hu
    subst hu
    exact ⟨_, _, _, _, _, _, hx, at' 0 _ rfl, at' 1 _ rfl, at' 2 _ rfl, at' 3 _ rfl, at' 4 _ rfl, at' 5 _ rfl⟩
  | 1, hu =>
    injection hu with hu
    subst hu
    exact ⟨_, _, _, _, _, _, hx, at' 6 _ rfl, at' 7 _ rfl, at' 8 _ rfl, at' 9 _ rfl, at' 10 _ rfl, at' 11 _ rfl⟩
  | n + 2, hu => simp at hu
/-- The term under way, in its box p: read wherever all but the box is as it was. -/
def Sh1 (w : World) (p : Nat) (V : World) : Prop := Below w.heap.size w V ∧ ∃ (D : Nat) (y : Tr D) (k1 n1 : Int) (t1 : ByteArray) (so1 ao1 uo1 : Option Addr) (sn1 sc1 an1 ac1 un1 uc1 : Nat), V.heap[p]? = some (.cells #[.int .i64 k1, .string t1, .int .i64 n1, .slice so1 sn1 sc1, .slice ao1 an1 ac1, .slice uo1 un1 uc1] 31 (0, 0)) ∧ ∀ V', Below w.heap.size w V' → Kb (fun b => b ≠ p) V V' → Tv V' D y [.int .i64 k1, .string t1, .int .i64 n1, .slice so1 sn1 sc1, .slice ao1 an1 ac1, .slice uo1 un1 uc1]
theorem Sh1.next {w V : World} {p : Nat} (kind : Int) (hkd : -9223372036854775808 ≤ kind ∧ kind ≤ 9223372036854775807) (hp : w.heap.size ≤ p) (D : Nat) (y : Tr D) (k1 n1 : Int) (t1 : ByteArray) (so1 ao1 uo1 : Option Addr) (sn1 sc1 an1 ac1 un1 uc1 : Nat) (bw : Below w.heap.size w V) (hr : V.heap[p]? = some (.cells #[.int .i64 k1, .string t1, .int .i64 n1, .slice so1 sn1 sc1, .slice ao1 an1 ac1, .slice uo1 un1 uc1] 31 (0, 0))) (h : ∀ V', Below w.heap.size w V' → Kb (fun b => b ≠ p) V V' → Tv V' D y [.int .i64 k1, .string t1, .int .i64 n1, .slice so1 sn1 sc1, .slice ao1 an1 ac1, .slice uo1 un1 uc1]) :
    Sh1 w p (((((((V.alloc (.cells #[.int .i64 k1, .string t1, .int .i64 n1, .slice so1 sn1 sc1, .slice ao1 an1 ac1, .slice uo1 un1 uc1, .int .i64 k1, .string t1, .int .i64 n1, .slice so1 sn1 sc1, .slice ao1 an1 ac1, .slice uo1 un1 uc1] 31)).setCell ⟨p, 0, none⟩ (.int .i64 kind)).setCell ⟨p, 1, none⟩ (.string ⟨#[]⟩)).setCell ⟨p, 2, none⟩ (.int .i64 0)).setCell ⟨p, 3, none⟩ (.slice none 0 0)).setCell ⟨p, 4, none⟩ (.slice none 0 0)).setCell ⟨p, 5, none⟩ (.slice (some ⟨V.heap.size, 0, none⟩) 2 2)) := by
  have hlt := (Array.getElem?_eq_some_iff.1 hr).1
  have kb := box_below V (.cells #[.int .i64 k1, .string t1, .int .i64 n1, .slice so1 sn1 sc1, .slice ao1 an1 ac1, .slice uo1 un1 uc1, .int .i64 k1, .string t1, .int .i64 n1, .slice so1 sn1 sc1, .slice ao1 an1 ac1, .slice uo1 un1 uc1] 31)
  have RN := allocNew V (.cells #[.int .i64 k1, .string t1, .int .i64 n1, .slice so1 sn1 sc1, .slice ao1 an1 ac1, .slice uo1 un1 uc1, .int .i64 k1, .string t1, .int .i64 n1, .slice so1 sn1 sc1, .slice ao1 an1 ac1, .slice uo1 un1 uc1] 31)
  have R1 := (kb.block p hlt).trans hr
  have gr := (box6_store _ p _ _ _ _ _ _ (.int .i64 kind) (.string ⟨#[]⟩) (.int .i64 0) (.slice none 0 0) (.slice none 0 0) (.slice (some ⟨V.heap.size, 0, none⟩) 2 2) _ R1).2.2
  have R2 := box6_row _ p _ _ _ _ _ _ (.int .i64 kind) (.string ⟨#[]⟩) (.int .i64 0) (.slice none 0 0) (.slice none 0 0) (.slice (some ⟨V.heap.size, 0, none⟩) 2 2) _ R1
  have KB : Kb (fun b => b ≠ p) V (V.alloc (.cells #[.int .i64 k1, .string t1, .int .i64 n1, .slice so1 sn1 sc1, .slice ao1 an1 ac1, .slice uo1 un1 uc1, .int .i64 k1, .string t1, .int .i64 n1, .slice so1 sn1 sc1, .slice ao1 an1 ac1, .slice uo1 un1 uc1] 31)) := Kb.of_below kb (fun b _ h => h)
  have KG := Kb.of_grown (Q := fun b => b ≠ p) gr (fun b hb e => by injection e with e; exact hb e)
  refine ⟨below_of_grown (bw.trans (kb.mono bw.size)) gr hp, D + 1, Tr.mk ⟨kind, ⟨#[]⟩, 0, [], []⟩ [y, y], _, _, _, _, _, _, _, _, _, _, _, _, R2, fun V' hB hV => ?_⟩
  have K2 := KB.trans (KG.trans hV)
  have RV := ((KG.trans hV).block V.heap.size (by omega) (Array.getElem?_eq_some_iff.1 RN).1).trans RN
  exact tv_node V' D kind [y, y] (some ⟨V.heap.size, 0, none⟩) 2 hkd (kq_two V' _ D y _ _ _ _ _ _ (h V' hB K2) RV) ⟨fun e => (by cases e), Nat.le_refl _, by decide⟩
set_option linter.unusedSimpArgs false in
set_option maxHeartbeats 8000000 in
set_option maxRecDepth 100000 in
theorem shared_walk (kind : Int) (n : Nat) (hn : n ≤ 255) (hkd : -9223372036854775808 ≤ kind ∧ kind ≤ 9223372036854775807) (d : Nat) (x : Tr d) (k1 n1 : Int) (t1 : ByteArray) (so1 ao1 uo1 : Option Addr) (sn1 sc1 an1 ac1 un1 uc1 : Nat) (w : World) (hT : Tv w d x [.int .i64 k1, .string t1, .int .i64 n1, .slice so1 sn1 sc1, .slice ao1 an1 ac1, .slice uo1 un1 uc1]) :
    Calls Tryz.prog 4 #[.int .i64 kind, .agg #[.int .i64 k1, .string t1, .int .i64 n1, .slice so1 sn1 sc1, .slice ao1 an1 ac1, .slice uo1 un1 uc1], .int .u8 (n : Nat)] w fun e w' => e = .returned (.bool true) ∧ Below w.heap.size w w' := by
  have k0 := box_below w (.cells #[.int .i64 k1, .string t1, .int .i64 n1, .slice so1 sn1 sc1, .slice ao1 an1 ac1, .slice uo1 un1 uc1] 31)
  have R0 := allocNew w (.cells #[.int .i64 k1, .string t1, .int .i64 n1, .slice so1 sn1 sc1, .slice ao1 an1 ac1, .slice uo1 un1 uc1] 31)
  obtain ⟨y0, y1, y2, y3, y4, y5⟩ := box6 R0
  have hbg := begun13_any (w.alloc (.cells #[.int .i64 k1, .string t1, .int .i64 n1, .slice so1 sn1 sc1, .slice ao1 an1 ac1, .slice uo1 un1 uc1] 31))
  go_enter Tryz.func4, Tryz.ntmps4
  go_wp2_with (go_at_call 9; (with_reducible refine hbg.mono ?_); rintro e w1 ⟨rfl, b1⟩; obtain ⟨z0, z1, z2, z3, z4, z5⟩ := box6 ((b1.block w.heap.size (by simp)).trans R0))
  have B1 := k0.trans (b1.mono k0.size)
  have kt := box_below w1 (.cells #[.int .i64 k1, .string t1, .int .i64 n1, .slice so1 sn1 sc1, .slice ao1 an1 ac1, .slice uo1 un1 uc1] 31)
  have BT := B1.trans (kt.mono B1.size)
  have RT := allocNew w1 (.cells #[.int .i64 k1, .string t1, .int .i64 n1, .slice so1 sn1 sc1, .slice ao1 an1 ac1, .slice uo1 un1 uc1] 31)
  have S0 : Sh1 w w1.heap.size (w1.alloc (.cells #[.int .i64 k1, .string t1, .int .i64 n1, .slice so1 sn1 sc1, .slice ao1 an1 ac1, .slice uo1 un1 uc1] 31)) := ⟨BT, d, x, _, _, _, _, _, _, _, _, _, _, _, _, RT, fun V' hB hV => Tv.below hB (Nat.le_refl _) _ _ _ hT⟩
  have hp := B1.size
  generalize (w1.alloc (.cells #[.int .i64 k1, .string t1, .int .i64 n1, .slice so1 sn1 sc1, .slice ao1 an1 ac1, .slice uo1 un1 uc1] 31)) = W1 at *
  generalize w1.heap.size = p at *
  clear hT R0 hbg k0 b1 B1 kt BT RT y0 y1 y2 y3 y4 y5 z0 z1 z2 z3 z4 z5
  go_loopw [8] (fun i V => ∃ j : Nat, j ≤ n ∧ i = .int .i64 (j : Nat) ∧ Sh1 w p V) (fun i _ => n - (intOf i).toNat)
  case atStart => exact ⟨0, Nat.zero_le _, rfl, S0⟩
  case round =>
    obtain ⟨j, hj, rfl, BV, D, y, k3, n3, t3, so3, ao3, uo3, sn3, sc3, an3, ac3, un3, uc3, RV, hV⟩ := hrel
    clear S0
    obtain ⟨c0, c1, c2, c3, c4, c5⟩ := box6 RV
    by_cases hlt : j < n
    · have hlt' : decide ((j : Int) < (n : Nat)) = true := by simp; omega
      have hw : IntKind.i64.wrap (n : Int) = (n : Int) := by rw [IntKind.wrap_i64]; omega
      have hlt2 := (Array.getElem?_eq_some_iff.1 RV).1
      have SN : Hid (_) := Sh1.next kind hkd hp D y _ _ _ _ _ _ _ _ _ _ _ _ BV RV hV
      have kb := box_below wr (.cells #[.int .i64 k3, .string t3, .int .i64 n3, .slice so3 sn3 sc3, .slice ao3 an3 ac3, .slice uo3 un3 uc3, .int .i64 k3, .string t3, .int .i64 n3, .slice so3 sn3 sc3, .slice ao3 an3 ac3, .slice uo3 un3 uc3] 31)
      obtain ⟨⟨⟨a0, a1⟩, a2, ⟨a3, a4⟩, a5, ⟨a6, a7⟩, a8, ⟨a9, a10⟩, a11, ⟨a12, a13⟩, a14, ⟨a15, a16⟩, a17⟩, ⟨f0, f1, f2, f3, f4, f5⟩, gr⟩ := box6_store _ p _ _ _ _ _ _ (.int .i64 kind) (.string ⟨#[]⟩) (.int .i64 0) (.slice none 0 0) (.slice none 0 0) (.slice (some ⟨wr.heap.size, 0, none⟩) 2 2) _ ((kb.block p hlt2).trans RV)
      have wj1 : IntKind.i64.wrap ((j : Int) + 1) = (j : Int) + 1 := by rw [IntKind.wrap_i64]; omega
      clear hV gr kb RV
      go_upto_region 8 with fail
      generalize wr.alloc (.cells #[.int .i64 k3, .string t3, .int .i64 n3, .slice so3 sn3 sc3, .slice ao3 an3 ac3, .slice uo3 un3 uc3, .int .i64 k3, .string t3, .int .i64 n3, .slice so3 sn3 sc3, .slice ao3 an3 ac3, .slice uo3 un3 uc3] 31) = WA at *
      generalize wr.heap.size = ga at *
      go_wp2
      go_roundw
      case rel => exact ⟨j + 1, by omega, by go_num, SN.out⟩
      case measure => simp [intOf]; omega
    · have hge : decide ((j : Int) < (n : Nat)) = false := by simp; omega
      have hw : IntKind.i64.wrap (n : Int) = (n : Int) := by rw [IntKind.wrap_i64]; omega
      have hT := hV wr BV ⟨Nat.le_refl _, fun _ _ _ => rfl⟩
      clear hV hj c0 c1 c2 c3 c4 c5
      go_wp2
      go_loopw [10] (fun i V => ∃ j : Nat, 1 ≤ j ∧ j ≤ 7 ∧ i = .int .i64 (j : Nat) ∧ Below w.heap.size w V ∧ V.heap[p]? = some (.cells #[.int .i64 k3, .string t3, .int .i64 n3, .slice so3 sn3 sc3, .slice ao3 an3 ac3, .slice uo3 un3 uc3] 31 (0, 0)) ∧ Tv V D y [.int .i64 k3, .string t3, .int .i64 n3, .slice so3 sn3 sc3, .slice ao3 an3 ac3, .slice uo3 un3 uc3]) (fun i _ => 7 - (intOf i).toNat)
      case atStart => exact ⟨1, by omega, by omega, rfl, BV, RV, hT⟩
      case round =>
        obtain ⟨j, hj1, hj, rfl, BX, RX, hX⟩ := hrel
        clear BV RV hT hge hw
        obtain ⟨c0, c1, c2, c3, c4, c5⟩ := box6 RX
        by_cases hlt : j ≤ 6
        · have hlt' : decide ((j : Int) ≤ 6) = true := by simp; omega
          have wj1 : IntKind.i64.wrap ((j : Int) + 1) = (j : Int) + 1 := by rw [IntKind.wrap_i64]; omega
          have hpl := plays_any (j : Int) D D y y k3 n3 k3 n3 3 t3 t3 so3 ao3 uo3 so3 ao3 uo3 sn3 sc3 an3 ac3 un3 uc3 sn3 sc3 an3 ac3 un3 uc3 wr hX hX
          have HX : Hid (Tv wr D y [.int .i64 k3, .string t3, .int .i64 n3, .slice so3 sn3 sc3, .slice ao3 an3 ac3, .slice uo3 un3 uc3]) := hX
          have HR : Hid (wr.heap[p]? = some (.cells #[.int .i64 k3, .string t3, .int .i64 n3, .slice so3 sn3 sc3, .slice ao3 an3 ac3, .slice uo3 un3 uc3] 31 (0, 0))) := RX
          clear hX RX
          go_wp2_with (go_at_call 10; (with_reducible refine hpl.mono ?_); rintro e w2 ⟨rfl, b2⟩)
          go_roundw
          case rel => exact ⟨j + 1, by omega, by omega, by go_num, BX.trans (b2.mono BX.size), (b2.block p (Array.getElem?_eq_some_iff.1 HR.out).1).trans HR.out, Tv.below b2 (Nat.le_refl _) _ _ _ HX.out⟩
          case measure => simp [intOf]; omega
        · have hge' : decide ((j : Int) ≤ 6) = false := by simp; omega
          have hlt3 : ¬ (j : Int) ≤ 6 := by omega
          go_wp2
          go_returns
          exact ⟨rfl, BX⟩
end Go.Proofs.YtiahilelcppfgaaGreat

namespace Go.Proofs.YtiahilelcppfgaaGreat.termShared

open Go.ChangeShapes Go.WideShapes Go.ChangeAt Go.RowKit

set_option linter.unusedVariables false

set_option maxRecDepth 100000 in
theorem lifted (os : Os) (started : os.Started) (H : Type) (enc : TypeId × Value → H) :
    ReturnsInHanded {} Tryz.checked os 4 .any (Rows.termSharedSpec.pre6 enc Tryz.prog Tryz.f4 Rows.termSharedRow.domain false) (Rows.termSharedSpec.post enc Tryz.prog Tryz.f4 false true false false) := by
  refine returnsInHanded_of_change_sized (C := Tryz.checked) own started (by kernel_rfl) Tryz.func4
    (ChangeSpec.witness6 (enc := enc) (C := Tryz.checked) false ⟨#[], #[.int .i64 0, .agg #[.int .i64 0, .string ByteArray.empty, .int .i64 0, .slice none 0 0, .slice none 0 0, .slice none 0 0], .int .u8 0], []⟩ 8 (by kernel_rfl) (by kernel_rfl) (by kernel_rfl) (by kernel_rfl)) ?_
  intro W base args ds gs before hval0 hW hcnd hsz0 _
  have hval : ∀ (j : Nat) t v, Tryz.f4.params[j]? = some t → args[j]? = some v → Value.okWide Tryz.prog W .any base t v := hval0
  have hW' := hW
  obtain ⟨p, q, hA0, hV, rfl, hfz, hnd⟩ := hW
  have hA : DataW.TrodAll enc Tryz.prog W 0 (fun _ => true) true Tryz.f4.params.toList args.toList ds p := hA0
  rw [Tryz.params4] at hA hval
  obtain ⟨v0, vs0, d0, ds0, p0, q0, hargs, rfl, rfl, h0, r0⟩ := trodAll_cons hA
  obtain ⟨v1, vs1, d1, ds1, p1, q1, rfl, rfl, rfl, h1, r1⟩ := trodAll_cons r0
  obtain ⟨v2, vs2, d2, ds2, p2, q2, rfl, rfl, rfl, h2, r2⟩ := trodAll_cons r1
  obtain ⟨rfl, rfl, rfl⟩ := trodAll_nil r2
  obtain rfl : args = #[v0, v1, v2] := by cases args; simp_all
  obtain ⟨rfl, rfl⟩ := trodVars_none hV
  have hsz : (DataW.weightsEach Tryz.checked.prog [3, 31, 5] [d0, d1, d2]).all (· ≤ reachBytes) = true := hsz0
  have k0 := h0
  have lt0 : ∀ x ∈ p0, x.block < W.heap.size := by obtain ⟨m, hm⟩ := k0; exact DataW.trod_lt m _ _ _ hm
  have k1 := h1
  have lt1 : ∀ x ∈ p1, x.block < W.heap.size := by obtain ⟨m, hm⟩ := k1; exact DataW.trod_lt m _ _ _ hm
  have k2 := h2
  have lt2 : ∀ x ∈ p2, x.block < W.heap.size := by obtain ⟨m, hm⟩ := k2; exact DataW.trod_lt m _ _ _ hm
  obtain ⟨f0, g0⟩ := h0
  obtain ⟨f1, g1⟩ := h1
  obtain ⟨f2, g2⟩ := h2
  obtain ⟨cs1, rfl, hcs1⟩ := okWide_struct Tryz.underlying31 (hval 1 31 v1 rfl rfl)
  obtain ⟨T, hT⟩ := open_term f1 _ _ g1 (weights_at hsz (j := 1) rfl rfl)
  obtain ⟨k, t, n, so, sn, sc, ao, an, ac, ko, kn, kc, e1⟩ := hT.form
  have ec := term_of_cells e1
  subst ec
  obtain ⟨z0, rfl⟩ := okWide_int Tryz.underlying3 (hval 0 3 v0 rfl rfl)
  obtain ⟨z0', ez0, _, wz0⟩ := DataW.trod_int Tryz.underlying3 g0
  obtain rfl : z0 = z0' := by simpa [Value.cells] using ez0
  obtain ⟨z2, rfl⟩ := okWide_int Tryz.underlying5 (hval 2 5 v2 rfl rfl)
  obtain ⟨z2', ez2, _, wz2⟩ := DataW.trod_int Tryz.underlying5 g2
  obtain rfl : z2 = z2' := by simpa [Value.cells] using ez2
  have bz0 := bounds_i64 wz0
  have bz2 : 0 ≤ z2 ∧ z2 ≤ 255 := by
    simp only [Lit.wf, Bool.and_eq_true, decide_eq_true_eq] at wz2
    exact ⟨wz2.1, wz2.2⟩
  obtain ⟨m, rfl⟩ := Int.eq_ofNat_of_zero_le bz2.1
  clear hA0 hval0
  refine (shared_walk z0 m (by omega) bz0 f1 T _ _ _ _ _ _ _ _ _ _ _ _ W (by rw [e1] at hT; exact hT)).mono fun e W' ⟨he, bel⟩ => ?_
  subst he
  exact ⟨_, rfl, _, _, _, [], _, [], hW', trodAll_mk1 (shut_bool Tryz.underlying4 _), (trodAll_cons_mk (Below.trod laidOut (by kernel_rfl) (of_decide_eq_true (by kernel_rfl)) k0 bel lt0) (trodAll_cons_mk (Below.trod laidOut (by kernel_rfl) (of_decide_eq_true (by kernel_rfl)) k1 bel lt1) (trodAll_cons_mk (Below.trod laidOut (by kernel_rfl) (of_decide_eq_true (by kernel_rfl)) k2 bel lt2) trodAll_mk0))), rfl, bel.frame _, fun h => by cases h⟩

theorem found : Tryz.pinned.checked.prog.funcNamed Rows.termSharedRow.func = some 4 := by kernel_rfl
theorem facts : joinedFacts Tryz.pinned.checked.prog 4 Tryz.f4 Rows.termSharedSpec Rows.termSharedRow = true := by kernel_rfl
theorem over : Rows.termSharedRow.holds Tryz.pinned (OpenSpec.ofChange Rows.termSharedSpec) :=
  OpenClaim.holds_of_wide 4 Tryz.f4 rfl rfl rfl rfl rfl rfl rfl ⟨rfl, rfl, rfl, rfl, rfl⟩ rfl rfl rfl rfl rfl found Tryz.func4 facts
    (of_decide_eq_true (by kernel_rfl)) (by unfold Func.isWrapper; first | (rw [if_pos (by decide +kernel)]; kernel_rfl) | (rw [if_neg (by decide +kernel)]; exact ⟨rfl, rfl⟩))
    (fun os started H enc _ => lifted os started H enc)
end Go.Proofs.YtiahilelcppfgaaGreat.termShared

namespace Go.Proofs.YtiahilelcppfgaaGreat

theorem termShared_holds : Rows.TermSharedSaid := termShared.over
#print axioms termShared_holds

end Go.Proofs.YtiahilelcppfgaaGreat
