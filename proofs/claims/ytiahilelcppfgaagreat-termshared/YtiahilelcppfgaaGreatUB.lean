
/- TermAll: a call is as the document says: Copy. -/

import Derived.Test.YtiahilelcppfgaaGreatUA

namespace Go.Proofs.YtiahilelcppfgaaGreat

open Go.RowKit

set_option linter.unusedVariables false

def zT : Tr 1 := Tr.mk ⟨0, ⟨#[]⟩, 0, [], []⟩ []
theorem tv_zero (W : World) : Tv W 1 zT [.int .i64 0, .string ⟨#[]⟩, .int .i64 0, .slice none 0 0, .slice none 0 0, .slice none 0 0] := tv_node W 0 0 [] none 0 (by decide) ⟨by simp, fun h0 => absurd h0 (by simp)⟩ ⟨fun _ => ⟨rfl, rfl⟩, by simp, by simp⟩
theorem szO_zero : szO 1 zT = true := by unfold szO; exact decide_eq_true ⟨by show 1 + psum _ 0 ≤ 4096; simp [psum], by show 1 + pmax _ 0 ≤ 256; simp [pmax]⟩
set_option linter.unusedSimpArgs false in
set_option maxRecDepth 100000 in
set_option maxHeartbeats 4000000 in
theorem play_60 (d e : Nat) (x : Tr (d + 1)) (y : Tr (e + 1)) (k1 n1 k2 n2 c : Int) (t1 t2 : ByteArray) (so1 ao1 uo1 so2 ao2 uo2 : Option Addr) (sn1 sc1 an1 ac1 un1 uc1 sn2 sc2 an2 ac2 un2 uc2 : Nat) (w : World) (hT : Tv w (d + 1) x [.int .i64 k1, .string t1, .int .i64 n1, .slice so1 sn1 sc1, .slice ao1 an1 ac1, .slice uo1 un1 uc1]) (hU : Tv w (e + 1) y [.int .i64 k2, .string t2, .int .i64 n2, .slice so2 sn2 sc2, .slice ao2 an2 ac2, .slice uo2 un2 uc2]) (ho : szO (d + 1) x = false) :
    Calls Tryz.prog 10 #[.agg #[.int .i64 6, .int .i64 k1, .string t1, .int .i64 n1, .slice so1 sn1 sc1, .slice ao1 an1 ac1, .slice uo1 un1 uc1, .int .i64 k2, .string t2, .int .i64 n2, .slice so2 sn2 sc2, .slice ao2 an2 ac2, .slice uo2 un2 uc2, .int .i64 c]] w fun e w' => e = .returned (.bool true) ∧ Below w.heap.size w w' := by
  have k0 := box_below w (.cells #[.int .i64 6, .int .i64 k1, .string t1, .int .i64 n1, .slice so1 sn1 sc1, .slice ao1 an1 ac1, .slice uo1 un1 uc1, .int .i64 k2, .string t2, .int .i64 n2, .slice so2 sn2 sc2, .slice ao2 an2 ac2, .slice uo2 un2 uc2, .int .i64 c] 33)
  have box := allocNew w (.cells #[.int .i64 6, .int .i64 k1, .string t1, .int .i64 n1, .slice so1 sn1 sc1, .slice ao1 an1 ac1, .slice uo1 un1 uc1, .int .i64 k2, .string t2, .int .i64 n2, .slice so2 sn2 sc2, .slice ao2 an2 ac2, .slice uo2 un2 uc2, .int .i64 c] 33)
  have HS : Hid (∀ V, Below (w.alloc (.cells #[.int .i64 6, .int .i64 k1, .string t1, .int .i64 n1, .slice so1 sn1 sc1, .slice ao1 an1 ac1, .slice uo1 un1 uc1, .int .i64 k2, .string t2, .int .i64 n2, .slice so2 sn2 sc2, .slice ao2 an2 ac2, .slice uo2 un2 uc2, .int .i64 c] 33)).heap.size (w.alloc (.cells #[.int .i64 6, .int .i64 k1, .string t1, .int .i64 n1, .slice so1 sn1 sc1, .slice ao1 an1 ac1, .slice uo1 un1 uc1, .int .i64 k2, .string t2, .int .i64 n2, .slice so2 sn2 sc2, .slice ao2 an2 ac2, .slice uo2 un2 uc2, .int .i64 c] 33)) V → V.cell? ⟨w.heap.size, 0, none⟩ = some (.int .i64 6) ∧ V.cell? ⟨w.heap.size, 1, none⟩ = some (.int .i64 k1) ∧ V.cell? ⟨w.heap.size, 2, none⟩ = some (.string t1) ∧ V.cell? ⟨w.heap.size, 3, none⟩ = some (.int .i64 n1) ∧ V.cell? ⟨w.heap.size, 4, none⟩ = some (.slice so1 sn1 sc1) ∧ V.cell? ⟨w.heap.size, 5, none⟩ = some (.slice ao1 an1 ac1) ∧ V.cell? ⟨w.heap.size, 6, none⟩ = some (.slice uo1 un1 uc1) ∧ V.cell? ⟨w.heap.size, 7, none⟩ = some (.int .i64 k2) ∧ V.cell? ⟨w.heap.size, 8, none⟩ = some (.string t2) ∧ V.cell? ⟨w.heap.size, 9, none⟩ = some (.int .i64 n2) ∧ V.cell? ⟨w.heap.size, 10, none⟩ = some (.slice so2 sn2 sc2) ∧ V.cell? ⟨w.heap.size, 11, none⟩ = some (.slice ao2 an2 ac2) ∧ V.cell? ⟨w.heap.size, 12, none⟩ = some (.slice uo2 un2 uc2) ∧ V.cell? ⟨w.heap.size, 13, none⟩ = some (.int .i64 c)) := fun V hV => box14 ((hV.block w.heap.size (by simp)).trans box)
  obtain ⟨q0, q1, q2, q3, q4, q5, q6, q7, q8, q9, q10, q11, q12, q13⟩ := HS.out _ (Below.refl _ _)
  have hc1 := fun V (hV : Below w.heap.size w V) => rsize_any d x _ _ _ _ _ _ V (Tv.below hV (Nat.le_refl _) _ _ _ hT)
  have hc2 := fun V (hV : Below w.heap.size w V) => copy_no d x _ _ _ _ _ _ V (Tv.below hV (Nat.le_refl _) _ _ _ hT) ho
  have hc3 := fun V (hV : Below w.heap.size w V) => rcopy_no d x _ _ _ _ _ _ V (Tv.below hV (Nat.le_refl _) _ _ _ hT) ho
  have eN : szN (d + 1) x = 4097 := by unfold szN; rw [ho]; rfl
  rw [eN] at hc1
  generalize szD (d + 1) x = R2 at *
  clear eN ho
  go_enter Tryz.func10, Tryz.ntmps10
  go_upto_region 17 with fail
  generalize hW : (w.alloc (.cells #[.int .i64 6, .int .i64 k1, .string t1, .int .i64 n1, .slice so1 sn1 sc1, .slice ao1 an1 ac1, .slice uo1 un1 uc1, .int .i64 k2, .string t2, .int .i64 n2, .slice so2 sn2 sc2, .slice ao2 an2 ac2, .slice uo2 un2 uc2, .int .i64 c] 33)) = W at *
  clear hW box
  clear hT hU
  go_wp2_with (first
    | (go_at_call 30; (with_reducible refine (hc1 _ k0).mono ?_); rintro e w5 ⟨rfl, b5⟩; obtain ⟨r0, r1, r2, r3, r4, r5, r6, r7, r8, r9, r10, r11, r12, r13⟩ := HS.out w5 b5)
    | (go_at_call 14; (with_reducible refine (hc2 _ (k0.trans (b5.mono k0.size))).mono ?_); rintro e w6 ⟨rfl, b6⟩
       have kA := box_below w6 (.cells #[.int .i64 0, .string ⟨#[]⟩, .int .i64 0, .slice none 0 0, .slice none 0 0, .slice none 0 0] 31); have bA := b5.trans ((b6.trans (kA.mono b6.size)).mono b5.size); have RA := allocNew w6 (.cells #[.int .i64 0, .string ⟨#[]⟩, .int .i64 0, .slice none 0 0, .slice none 0 0, .slice none 0 0] 31); obtain ⟨r0, r1, r2, r3, r4, r5, r6, r7, r8, r9, r10, r11, r12, r13⟩ := HS.out _ bA
       clear kA)
    | (go_at_call 33; (with_reducible refine (hc3 _ (k0.trans (bA.mono k0.size))).mono ?_); rintro e w7 ⟨rfl, b7⟩
       have kB := box_below w7 (.cells #[.int .i64 0, .string ⟨#[]⟩, .int .i64 0, .slice none 0 0, .slice none 0 0, .slice none 0 0] 31); have b7B := b7.trans (kB.mono b7.size); have bB := bA.trans (b7B.mono bA.size); have RB := allocNew w7 (.cells #[.int .i64 0, .string ⟨#[]⟩, .int .i64 0, .slice none 0 0, .slice none 0 0, .slice none 0 0] 31)
       obtain ⟨u0, u1, u2, u3, u4, u5⟩ := box6 ((b7B.block w6.heap.size (by simp)).trans RA); obtain ⟨v0, v1, v2, v3, v4, v5⟩ := box6 RB
       clear kB)
    | (go_at_call 22; (with_reducible refine (teq_any 1 zT _ _ _ _ _ _ _ _ _ _ _ _ _ (tv_zero _) (tv_zero _) szO_zero).mono ?_); rintro e w8 ⟨rfl, b8⟩))
  go_ret
  exact ⟨ret_bool (by simp), (k0.trans (bB.mono k0.size)).trans (b8.mono (Nat.le_trans k0.size bB.size))⟩
set_option linter.unusedSimpArgs false in
set_option maxRecDepth 100000 in
set_option maxHeartbeats 4000000 in
theorem play_61 (d e : Nat) (x : Tr (d + 1)) (y : Tr (e + 1)) (k1 n1 k2 n2 c : Int) (t1 t2 : ByteArray) (so1 ao1 uo1 so2 ao2 uo2 : Option Addr) (sn1 sc1 an1 ac1 un1 uc1 sn2 sc2 an2 ac2 un2 uc2 : Nat) (w : World) (hT : Tv w (d + 1) x [.int .i64 k1, .string t1, .int .i64 n1, .slice so1 sn1 sc1, .slice ao1 an1 ac1, .slice uo1 un1 uc1]) (hU : Tv w (e + 1) y [.int .i64 k2, .string t2, .int .i64 n2, .slice so2 sn2 sc2, .slice ao2 an2 ac2, .slice uo2 un2 uc2]) (ho : szO (d + 1) x = true) :
    Calls Tryz.prog 10 #[.agg #[.int .i64 6, .int .i64 k1, .string t1, .int .i64 n1, .slice so1 sn1 sc1, .slice ao1 an1 ac1, .slice uo1 un1 uc1, .int .i64 k2, .string t2, .int .i64 n2, .slice so2 sn2 sc2, .slice ao2 an2 ac2, .slice uo2 un2 uc2, .int .i64 c]] w fun e w' => e = .returned (.bool true) ∧ Below w.heap.size w w' := by
  have k0 := box_below w (.cells #[.int .i64 6, .int .i64 k1, .string t1, .int .i64 n1, .slice so1 sn1 sc1, .slice ao1 an1 ac1, .slice uo1 un1 uc1, .int .i64 k2, .string t2, .int .i64 n2, .slice so2 sn2 sc2, .slice ao2 an2 ac2, .slice uo2 un2 uc2, .int .i64 c] 33)
  have box := allocNew w (.cells #[.int .i64 6, .int .i64 k1, .string t1, .int .i64 n1, .slice so1 sn1 sc1, .slice ao1 an1 ac1, .slice uo1 un1 uc1, .int .i64 k2, .string t2, .int .i64 n2, .slice so2 sn2 sc2, .slice ao2 an2 ac2, .slice uo2 un2 uc2, .int .i64 c] 33)
  have HS : Hid (∀ V, Below (w.alloc (.cells #[.int .i64 6, .int .i64 k1, .string t1, .int .i64 n1, .slice so1 sn1 sc1, .slice ao1 an1 ac1, .slice uo1 un1 uc1, .int .i64 k2, .string t2, .int .i64 n2, .slice so2 sn2 sc2, .slice ao2 an2 ac2, .slice uo2 un2 uc2, .int .i64 c] 33)).heap.size (w.alloc (.cells #[.int .i64 6, .int .i64 k1, .string t1, .int .i64 n1, .slice so1 sn1 sc1, .slice ao1 an1 ac1, .slice uo1 un1 uc1, .int .i64 k2, .string t2, .int .i64 n2, .slice so2 sn2 sc2, .slice ao2 an2 ac2, .slice uo2 un2 uc2, .int .i64 c] 33)) V → V.cell? ⟨w.heap.size, 0, none⟩ = some (.int .i64 6) ∧ V.cell? ⟨w.heap.size, 1, none⟩ = some (.int .i64 k1) ∧ V.cell? ⟨w.heap.size, 2, none⟩ = some (.string t1) ∧ V.cell? ⟨w.heap.size, 3, none⟩ = some (.int .i64 n1) ∧ V.cell? ⟨w.heap.size, 4, none⟩ = some (.slice so1 sn1 sc1) ∧ V.cell? ⟨w.heap.size, 5, none⟩ = some (.slice ao1 an1 ac1) ∧ V.cell? ⟨w.heap.size, 6, none⟩ = some (.slice uo1 un1 uc1) ∧ V.cell? ⟨w.heap.size, 7, none⟩ = some (.int .i64 k2) ∧ V.cell? ⟨w.heap.size, 8, none⟩ = some (.string t2) ∧ V.cell? ⟨w.heap.size, 9, none⟩ = some (.int .i64 n2) ∧ V.cell? ⟨w.heap.size, 10, none⟩ = some (.slice so2 sn2 sc2) ∧ V.cell? ⟨w.heap.size, 11, none⟩ = some (.slice ao2 an2 ac2) ∧ V.cell? ⟨w.heap.size, 12, none⟩ = some (.slice uo2 un2 uc2) ∧ V.cell? ⟨w.heap.size, 13, none⟩ = some (.int .i64 c)) := fun V hV => box14 ((hV.block w.heap.size (by simp)).trans box)
  obtain ⟨q0, q1, q2, q3, q4, q5, q6, q7, q8, q9, q10, q11, q12, q13⟩ := HS.out _ (Below.refl _ _)
  have hc1 := fun V (hV : Below w.heap.size w V) => rsize_any d x _ _ _ _ _ _ V (Tv.below hV (Nat.le_refl _) _ _ _ hT)
  have hcL := fun V (hV : Below w.heap.size w V) => light_any (d + 1) x _ _ _ _ _ _ V (Tv.below hV (Nat.le_refl _) _ _ _ hT)
  have hN : decide ((szN (d + 1) x : Int) ≤ 4096) = true := by
    have q := of_decide_eq_true (show decide (nds (d + 1) x ≤ 4096 ∧ dep (d + 1) x ≤ 256) = true from ho)
    unfold szN
    rw [if_pos ho]
    exact decide_eq_true (by omega)
  have hc2 := fun V (hV : Below w.heap.size w V) => copy_ok (d + 1) x _ _ _ _ _ _ V (Tv.below hV (Nat.le_refl _) _ _ _ hT) ho
  have hc3 := fun V (hV : Below w.heap.size w V) => rcopy_ok d x _ _ _ _ _ _ V (Tv.below hV (Nat.le_refl _) _ _ _ hT) ho
  generalize szN (d + 1) x = R1 at *
  generalize szD (d + 1) x = R2 at *
  have HO : Hid (szO (d + 1) x = true) := ho
  clear ho
  go_enter Tryz.func10, Tryz.ntmps10
  go_upto_region 17 with fail
  generalize hW : (w.alloc (.cells #[.int .i64 6, .int .i64 k1, .string t1, .int .i64 n1, .slice so1 sn1 sc1, .slice ao1 an1 ac1, .slice uo1 un1 uc1, .int .i64 k2, .string t2, .int .i64 n2, .slice so2 sn2 sc2, .slice ao2 an2 ac2, .slice uo2 un2 uc2, .int .i64 c] 33)) = W at *
  clear hW box
  clear hT hU
  go_upto_region 18 with (go_at_call 30; (with_reducible refine (hc1 _ k0).mono ?_); rintro e w5 ⟨rfl, b5⟩; obtain ⟨r0, r1, r2, r3, r4, r5, r6, r7, r8, r9, r10, r11, r12, r13⟩ := HS.out w5 b5)
  go_upto_region 19 with (go_at_call 19; (with_reducible refine (hcL _ (k0.trans (b5.mono k0.size))).mono ?_); rintro e w6 ⟨lb, rfl, b6⟩; obtain ⟨s0, s1, s2, s3, s4, s5, s6, s7, s8, s9, s10, s11, s12, s13⟩ := HS.out w6 (b5.trans (b6.mono b5.size)))
  all_goals have B6 := b5.trans (b6.mono b5.size)
  · go_wp2
    go_ret
    exact ⟨rfl, k0.trans (B6.mono k0.size)⟩
  · with_reducible refine (hc2 _ (k0.trans (B6.mono k0.size))).mono ?_
    rintro e w7 ⟨z0, z1, z2, z3, z4, z5, rfl, tw, b7⟩
    obtain ⟨k3, t3, n3, so3, sn3, sc3, ao3, an3, ac3, uo3, un3, uc3, ev⟩ := tw.tv.form
    injection ev with ev0 ev
    injection ev with ev1 ev
    injection ev with ev2 ev
    injection ev with ev3 ev
    injection ev with ev4 ev
    injection ev with ev5 ev
    subst ev0 ev1 ev2 ev3 ev4 ev5
    have kA := box_below w7 (.cells #[.int .i64 k3, .string t3, .int .i64 n3, .slice so3 sn3 sc3, .slice ao3 an3 ac3, .slice uo3 un3 uc3] 31)
    have b7A := b7.trans (kA.mono b7.size)
    have bA := B6.trans (b7A.mono B6.size)
    have RA := allocNew w7 (.cells #[.int .i64 k3, .string t3, .int .i64 n3, .slice so3 sn3 sc3, .slice ao3 an3 ac3, .slice uo3 un3 uc3] 31)
    obtain ⟨p0, p1, p2, p3, p4, p5, p6, p7, p8, p9, p10, p11, p12, p13⟩ := HS.out _ bA
    have TA := Tv.below kA (Nat.le_refl _) _ _ _ tw.tv
    clear kA tw
    go_wp2_with (first
      | (go_at_call 33; (with_reducible refine (hc3 _ (k0.trans (bA.mono k0.size))).mono ?_); rintro e w8 ⟨z0, z1, z2, z3, z4, z5, rfl, tw, b8⟩
         obtain ⟨k4, t4, n4, so4, sn4, sc4, ao4, an4, ac4, uo4, un4, uc4, ev⟩ := tw.form
         injection ev with ev0 ev
         injection ev with ev1 ev
         injection ev with ev2 ev
         injection ev with ev3 ev
         injection ev with ev4 ev
         injection ev with ev5 ev
         subst ev0 ev1 ev2 ev3 ev4 ev5
         have kB := box_below w8 (.cells #[.int .i64 k4, .string t4, .int .i64 n4, .slice so4 sn4 sc4, .slice ao4 an4 ac4, .slice uo4 un4 uc4] 31); have b8B := b8.trans (kB.mono b8.size); have bB := bA.trans (b8B.mono bA.size); have RB := allocNew w8 (.cells #[.int .i64 k4, .string t4, .int .i64 n4, .slice so4 sn4 sc4, .slice ao4 an4 ac4, .slice uo4 un4 uc4] 31)
         obtain ⟨u0, u1, u2, u3, u4, u5⟩ := box6 ((b8B.block w7.heap.size (by simp)).trans RA); obtain ⟨v0, v1, v2, v3, v4, v5⟩ := box6 RB
         have TB := Tv.below kB (Nat.le_refl _) _ _ _ tw
         have TC := Tv.below b8B (Nat.le_refl _) _ _ _ TA
         clear kB tw)
      | (go_at_call 22; (with_reducible refine (teq_any (d + 1) x _ _ _ _ _ _ _ _ _ _ _ _ _ TC TB HO.out).mono ?_); rintro e w9 ⟨rfl, b9⟩))
    go_ret
    exact ⟨ret_bool (by simp), (k0.trans (bB.mono k0.size)).trans (b9.mono (Nat.le_trans k0.size bB.size))⟩
theorem play_6 (d e : Nat) (x : Tr (d + 1)) (y : Tr (e + 1)) (k1 n1 k2 n2 c : Int) (t1 t2 : ByteArray) (so1 ao1 uo1 so2 ao2 uo2 : Option Addr) (sn1 sc1 an1 ac1 un1 uc1 sn2 sc2 an2 ac2 un2 uc2 : Nat) (w : World) (hT : Tv w (d + 1) x [.int .i64 k1, .string t1, .int .i64 n1, .slice so1 sn1 sc1, .slice ao1 an1 ac1, .slice uo1 un1 uc1]) (hU : Tv w (e + 1) y [.int .i64 k2, .string t2, .int .i64 n2, .slice so2 sn2 sc2, .slice ao2 an2 ac2, .slice uo2 un2 uc2]) :
    Calls Tryz.prog 10 #[.agg #[.int .i64 6, .int .i64 k1, .string t1, .int .i64 n1, .slice so1 sn1 sc1, .slice ao1 an1 ac1, .slice uo1 un1 uc1, .int .i64 k2, .string t2, .int .i64 n2, .slice so2 sn2 sc2, .slice ao2 an2 ac2, .slice uo2 un2 uc2, .int .i64 c]] w fun e w' => e = .returned (.bool true) ∧ Below w.heap.size w w' := by
  cases ho : szO (d + 1) x
  · exact play_60 d e x y k1 n1 k2 n2 c t1 t2 so1 ao1 uo1 so2 ao2 uo2 sn1 sc1 an1 ac1 un1 uc1 sn2 sc2 an2 ac2 un2 uc2 w hT hU ho
  · exact play_61 d e x y k1 n1 k2 n2 c t1 t2 so1 ao1 uo1 so2 ao2 uo2 sn1 sc1 an1 ac1 un1 uc1 sn2 sc2 an2 ac2 un2 uc2 w hT hU ho
end Go.Proofs.YtiahilelcppfgaaGreat
