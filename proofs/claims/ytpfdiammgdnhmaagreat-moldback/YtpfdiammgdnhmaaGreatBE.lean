
/- MoldBack: the law itself. -/

import Derived.Test.YtpfdiammgdnhmaaGreatBD

namespace Go.Proofs.YtpfdiammgdnhmaaGreat

open Go.RowKit

set_option linter.unusedVariables false

theorem back_no (so ao : Option Addr) (sn sc an ac : Nat) (sh at' : List Int) (w : World) (hs : Rd w so sn sh) (ha : Rd w ao an at') (my : mayA sh at' ≠ 0) :
    Calls Tryz.prog 3 #[.agg #[.slice so sn sc, .slice ao an ac]] w fun e w' => e = .returned (.bool true) ∧ Below w.heap.size w w' := by
  have k0 := box_below w (.cells #[.slice so sn sc, .slice ao an ac] 25)
  have b0 := allocNew w (.cells #[.slice so sn sc, .slice ao an ac] 25)
  have cB := begun6_any (w.alloc (.cells #[.slice so sn sc, .slice ao an ac] 25))
  have cM := fun V (k : Below w.heap.size w V) => may6_no so ao sn sc an ac sh at' V (hs.below k (Nat.le_refl _)) (ha.below k (Nat.le_refl _)) my
  have cX := fun V (k : Below w.heap.size w V) => monad_bad 42 so ao sn sc an ac sh at' V (hs.below k (Nat.le_refl _)) (ha.below k (Nat.le_refl _)) my
  go_enter Tryz.func3, Tryz.ntmps3
  go_wp2_with (first | (go_at_call 8; (with_reducible refine cB.mono ?_); rintro e W1 ⟨rfl, k1⟩; have K1 := k0.trans (k1.mono k0.size); have r1 := (k1.block w.heap.size (by simp)).trans b0; obtain ⟨y0, y1, _, _⟩ := box2 r1) | (go_at_call 9; (with_reducible refine (cM W1 K1).mono ?_); rintro e W2 ⟨rfl, k2⟩; have K2 := K1.trans (k2.mono K1.size); have r2 := (k2.block w.heap.size (Array.getElem?_eq_some_iff.1 r1).1).trans r1; obtain ⟨u0, u1, _, _⟩ := box2 r2) | (go_at_call 10; (with_reducible refine (cX W2 K2).mono ?_); rintro e v1 ⟨o1, n1, c1, o2, n2, c2, rfl, f1, f2, j1⟩; have K3 := K2.trans (j1.mono K2.size)))
  go_ret
  exact ⟨rfl, K3.trans ((box_below v1 _).mono K3.size)⟩

set_option maxHeartbeats 16000000 in
set_option maxRecDepth 20000 in
theorem back_ok (so ao : Option Addr) (sn sc an ac : Nat) (sh at' : List Int) (w : World) (hs : Rd w so sn sh) (ss : Sl so sn sc) (ha : Rd w ao an at') (sa : Sl ao an ac) (my : mayA sh at' = 0) :
    Calls Tryz.prog 3 #[.agg #[.slice so sn sc, .slice ao an ac]] w fun e w' => e = .returned (.bool true) ∧ Below w.heap.size w w' := by
  have k0 := box_below w (.cells #[.slice so sn sc, .slice ao an ac] 25)
  have b0 := allocNew w (.cells #[.slice so sn sc, .slice ao an ac] 25)
  have cB := begun6_any (w.alloc (.cells #[.slice so sn sc, .slice ao an ac] 25))
  have cM := fun V (k : Below w.heap.size w V) => may6_yes so ao sn sc an ac sh at' V (hs.below k (Nat.le_refl _)) (ha.below k (Nat.le_refl _)) my
  have hsn8 : sn ≤ 8 := by rw [← hs.len]; exact (mayF_zero (mayA_zero my).1).2.1
  have han4 : an ≤ 4096 := by rw [← ha.len]; exact atoms4 my
  have HSL : Hid (sh.length = sn) := hs.len
  have HAL : Hid (at'.length = an) := ha.len
  have cT1 := fun V (B : Bo V w.heap.size so sn sc ao an ac sh at') => rev2_any so ao sn sc an ac sh at' V B.s B.a my
  have cT2 := fun V (B : Bo V w.heap.size so sn sc ao an ac sh at') => tran2_any so ao sn sc an ac sh at' V B.s B.a my
  have cE := fun V o1 o2 n1 c1 n2 c2 (h1 : Rd V o1 n1 sh) (h2 : Rd V o2 n2 at') (B : Bo V w.heap.size so sn sc ao an ac sh at') => eq4_any o1 o2 so ao n1 c1 n2 c2 sn sc an ac sh at' sh at' V h1 h2 B.s B.a
  rw [show eqA sh at' sh at' = true from eqA_refl sh at'] at cE
  have cL := fun V (B : Bo V w.heap.size so sn sc ao an ac sh at') => left_does so ao sn sc an ac sh at' V B.s ss B.a sa my
  have cR := fun V (B : Bo V w.heap.size so sn sc ao an ac sh at') => right_does so ao sn sc an ac sh at' V B.s ss B.a sa my
  have cS := fun V (B : Bo V w.heap.size so sn sc ao an ac sh at') => shape_m so ao sn sc an ac sh at' V B.s B.a my
  have cV := fun V (B : Bo V w.heap.size so sn sc ao an ac sh at') => ravel_m so ao sn sc an ac sh at' V B.s B.a sa my
  have cG : ∀ V o1 o2 n1 c1 n2 c2, Rd V o1 n1 [(an : Int)] → Rd V o2 n2 at' → Sl o2 n2 c2 → n2 = an → Calls Tryz.prog 13 #[.int .i64 24, .agg #[.slice o1 n1 c1, .slice o2 n2 c2], .agg #[.slice o1 n1 c1, .slice o2 n2 c2]] V fun e w' => e = .returned (.bool true) ∧ Below V.heap.size V w' := by
    rintro V o1 o2 n1 c1 n2 c2 h1 h2 s2 rfl
    exact ravel_does o1 o2 n1 c1 n2 c2 at' V h1 h2 s2 han4
  have cQ := fun V o2 n2 c2 (h2 : Rd V o2 n2 at') (B : Bo V w.heap.size so sn sc ao an ac sh at') => eqAtoms_any o2 ao n2 an c2 ac at' at' V h2 B.a
  rw [show eqB at' at' = true from eqB_refl at'] at cQ
  have HMY : Hid (mayA sh at' = 0) := my
  clear my
  go_enter Tryz.func3, Tryz.ntmps3
  go_wp2_with (first
    | (go_at_call 8; (with_reducible refine cB.mono ?_); rintro e W1 ⟨rfl, k1⟩; have K1 := k0.trans (k1.mono k0.size); have r1 := (k1.block w.heap.size (by simp)).trans b0; obtain ⟨y0, y1, _, _⟩ := box2 r1)
    | (go_at_call 9; (with_reducible refine (cM W1 K1).mono ?_); rintro e W2 ⟨rfl, k2⟩; have K2 := K1.trans (k2.mono K1.size); have r2 := (k2.block w.heap.size (Array.getElem?_eq_some_iff.1 r1).1).trans r1; obtain ⟨u0, u1, _, _⟩ := box2 r2; have Y0 : Bo W2 w.heap.size so sn sc ao an ac sh at' := ⟨r2, hs.below K2 (Nat.le_refl _), ha.below K2 (Nat.le_refl _), ss, sa⟩; have Q0 := K2)
    | (go_at_call 11; (with_reducible refine (cT1 W2 Y0).mono ?_); rintro e v1 ⟨o1, n1, c1, p1, m1, d1, rfl, f1, g1, j1⟩; have B1x1 := bo_new f1 g1; have Y1 := (Y0.below j1).below (box_below v1 (.cells #[.slice o1 n1 c1, .slice p1 m1 d1] 25)); have Q1 := Q0.trans ((j1.mono Q0.size).trans ((box_below v1 (.cells #[.slice o1 n1 c1, .slice p1 m1 d1] 25)).mono (Nat.le_trans Q0.size j1.size))); obtain ⟨ya1, yb1⟩ := Y1.all)
    | (go_at_call 11; (with_reducible refine (cT2 (v1.alloc (.cells #[.slice o1 n1 c1, .slice p1 m1 d1] 25)) Y1).mono ?_); rintro e v2 ⟨o2, n2, c2, p2, m2, d2, rfl, f2, g2, j2⟩; have B2x2 := bo_new f2 g2; have B1x2 := (B1x1.below j2).below (box_below v2 (.cells #[.slice o2 n2 c2, .slice p2 m2 d2] 25)); obtain ⟨ba1x2, bb1x2⟩ := B1x2.all; have Y2 := (Y1.below j2).below (box_below v2 (.cells #[.slice o2 n2 c2, .slice p2 m2 d2] 25)); have Q2 := Q1.trans ((j2.mono Q1.size).trans ((box_below v2 (.cells #[.slice o2 n2 c2, .slice p2 m2 d2] 25)).mono (Nat.le_trans Q1.size j2.size))); obtain ⟨ya2, yb2⟩ := Y2.all)
    | (go_at_call 12; (with_reducible refine (cE (v2.alloc (.cells #[.slice o2 n2 c2, .slice p2 m2 d2] 25)) o1 p1 n1 c1 m1 d1 B1x2.s B1x2.a Y2).mono ?_); rintro e v3 ⟨rfl, j3⟩; have B1x3 := B1x2.below j3; obtain ⟨ba1x3, bb1x3⟩ := B1x3.all; have B2x3 := B2x2.below j3; obtain ⟨ba2x3, bb2x3⟩ := B2x3.all; have Y3 := Y2.below j3; have Q3 := Q2.trans (j3.mono Q2.size); obtain ⟨ya3, yb3⟩ := Y3.all)
    | (go_at_call 12; (with_reducible refine (cE v3 o2 p2 n2 c2 m2 d2 B2x3.s B2x3.a Y3).mono ?_); rintro e v4 ⟨rfl, j4⟩; have B1x4 := B1x3.below j4; obtain ⟨ba1x4, bb1x4⟩ := B1x4.all; have B2x4 := B2x3.below j4; obtain ⟨ba2x4, bb2x4⟩ := B2x4.all; have Y4 := Y3.below j4; have Q4 := Q3.trans (j4.mono Q3.size); obtain ⟨ya4, yb4⟩ := Y4.all)
    | (go_at_call 13; (with_reducible refine (cL v4 Y4).mono ?_); rintro e v5 ⟨rfl, j5⟩; have Y5 := Y4.below j5; have Q5 := Q4.trans (j5.mono Q4.size); obtain ⟨ya5, yb5⟩ := Y5.all)
    | (go_at_call 13; (with_reducible refine (cR v5 Y5).mono ?_); rintro e v6 ⟨rfl, j6⟩; have Y6 := Y5.below j6; have Q6 := Q5.trans (j6.mono Q5.size); obtain ⟨ya6, yb6⟩ := Y6.all)
    | (go_at_call 10; (with_reducible refine (cS v6 Y6).mono ?_); rintro e v7 ⟨o7, n7, c7, p7, m7, d7, rfl, f7, g7, j7⟩; have B7x7 := bo_new f7 g7; have Y7 := (Y6.below j7).below (box_below v7 (.cells #[.slice o7 n7 c7, .slice p7 m7 d7] 25)); have Q7 := Q6.trans ((j7.mono Q6.size).trans ((box_below v7 (.cells #[.slice o7 n7 c7, .slice p7 m7 d7] 25)).mono (Nat.le_trans Q6.size j7.size))); obtain ⟨ya7, yb7⟩ := Y7.all; have HM7 : Hid (m7 = sn) := g7.rd.len.symm.trans HSL.out; have t7 : ((m7 : Int) != (sn : Int)) = false := (by rw [HM7.out]; simp))
    | (go_at_call 10; (with_reducible refine (cV (v7.alloc (.cells #[.slice o7 n7 c7, .slice p7 m7 d7] 25)) Y7).mono ?_); rintro e v8 ⟨o8, n8, c8, p8, m8, d8, rfl, f8, g8, j8⟩; have B8x8 := bo_new f8 g8; have B7x8 := (B7x7.below j8).below (box_below v8 (.cells #[.slice o8 n8 c8, .slice p8 m8 d8] 25)); obtain ⟨ba7x8, bb7x8⟩ := B7x8.all; have Y8 := (Y7.below j8).below (box_below v8 (.cells #[.slice o8 n8 c8, .slice p8 m8 d8] 25)); have Q8 := Q7.trans ((j8.mono Q7.size).trans ((box_below v8 (.cells #[.slice o8 n8 c8, .slice p8 m8 d8] 25)).mono (Nat.le_trans Q7.size j8.size))); obtain ⟨ya8, yb8⟩ := Y8.all; obtain ⟨bs8, bt8⟩ := B8x8.all; have HM8 : Hid (m8 = an) := g8.rd.len.symm.trans HAL.out; obtain ⟨bu7, bv7⟩ := B7x8.all)
    | (go_at_call 13; (with_reducible refine (cG (v8.alloc (.cells #[.slice o8 n8 c8, .slice p8 m8 d8] 25)) o8 p8 n8 c8 m8 d8 B8x8.s B8x8.a B8x8.sa HM8.out).mono ?_); rintro e v9 ⟨rfl, j9⟩; have B7x9 := B7x8.below j9; obtain ⟨ba7x9, bb7x9⟩ := B7x9.all; have B8x9 := B8x8.below j9; obtain ⟨ba8x9, bb8x9⟩ := B8x9.all; have Y9 := Y8.below j9; have Q9 := Q8.trans (j9.mono Q8.size); obtain ⟨ya9, yb9⟩ := Y9.all)
    | (go_at_call 14; (with_reducible refine (cQ v9 p8 m8 d8 B8x9.a Y9).mono ?_); rintro e v10 ⟨rfl, q10, hw10⟩; have j10 : Below v9.heap.size v9 v10 := (by rw [hw10]; exact below_drewN (Below.refl _ _) q10); clear hw10; have B7x10 := B7x9.below j10; obtain ⟨ba7x10, bb7x10⟩ := B7x10.all; have B8x10 := B8x9.below j10; obtain ⟨ba8x10, bb8x10⟩ := B8x10.all; have Y10 := Y9.below j10; have Q10 := Q9.trans (j10.mono Q9.size); obtain ⟨ya10, yb10⟩ := Y10.all))
  clear cB cM cT1 cT2 cE cL cR cS cV cG cQ k0 b0 k1 k2 K1 K2 r1 r2 y0 y1 u0 u1 t7
  clear Y0 Y1 Y2 Y3 Y4 Y5 Y6 Y7 Y8 Y9 Q0 Q1 Q2 Q3 Q4 Q5 Q6 Q7 Q8 Q9 B1x1 B1x2 B1x3 B1x4 B2x2 B2x3 B2x4 B7x7 B7x8 B7x9 B8x8 B8x9
  clear f1 g1 f2 g2 f7 g7 f8 g8 j1 j2 j3 j4 j5 j6 j7 j8 j9 j10 ya1 yb1 ya2 yb2 ya3 yb3 ya4 yb4 ya5 yb5 ya6 yb6 ya7 yb7 ya8 yb8 ya9 yb9 ya10 yb10
  have h7 := HM7.out
  have h7r := B7x10.a.room
  go_loopw [13] (fun i V => ∃ k : Nat, k ≤ sn ∧ i = .int .i64 (k : Nat) ∧ Below v10.heap.size v10 V) (fun i _ => sn - (intOf i).toNat)
  case atStart => exact ⟨0, Nat.zero_le _, rfl, Below.refl _ _⟩
  case round =>
    obtain ⟨k, hk, rfl, G⟩ := hrel
    have Yk := Y10.below G
    have B7 := B7x10.below G
    have B8 := B8x10.below G
    obtain ⟨a1, a2⟩ := B7.all
    obtain ⟨y1, y2⟩ := Yk.all
    by_cases hlt : k < sn
    · have hlt7 : k < m7 := by omega
      obtain ⟨b1, of1, rfl, hb1, hc1⟩ := B7.a.cells (by omega)
      obtain ⟨b2, of2, rfl, hb2, hc2⟩ := Yk.s.cells (by omega)
      have d1 := hc1 k hlt7
      have d2 := hc2 k hlt
      have hne : (nth sh k != nth sh k) = false := by simp
      clear hc1 hc2 h7 B7 B8 Yk B7x10 B8x10 Y10
      go_wp2
      go_quiet (fail)
      go_wp2
      go_roundw
      case rel => exact ⟨k + 1, by omega, by go_num, below_drewN G _⟩
      case measure => simp [intOf]; omega
    · obtain rfl : sn = k := by omega
      have hge : ¬ sn < m7 := by omega
      have h8 := HM8.out
      have K := Q10.trans (G.mono Q10.size)
      obtain ⟨e1, e2⟩ := B8.all
      by_cases han0 : an = 0
      · have t0 : ((an : Int) == 0) = true := by simp [han0]
        clear han0 h7 h8
        go_wp2
        go_ret
        exact ⟨rfl, K⟩
      · have t0 : ((an : Int) == 0) = false := by simp [han0]
        have cX := both_shape o7 p7 o8 p8 so ao n7 c7 m7 d7 n8 c8 m8 d8 sn sc an ac sh at' wr (by rw [HM7.out]; exact B7.s) B7.a (by rw [HM8.out]; exact B8.s) B8.ss B8.a Yk.s Yk.a HMY.out (by omega)
        clear han0 h7 h8
        go_wp2_with (go_at_call 15; (with_reducible refine cX.mono ?_); rintro e v11 ⟨rfl, j11⟩)
        go_ret
        exact ⟨rfl, K.trans (j11.mono K.size)⟩

theorem back_walk6 (so ao : Option Addr) (sn sc an ac : Nat) (sh at' : List Int) (w : World) (hs : Rd w so sn sh) (ss : Sl so sn sc) (ha : Rd w ao an at') (sa : Sl ao an ac) :
    Calls Tryz.prog 3 #[.agg #[.slice so sn sc, .slice ao an ac]] w fun e w' => e = .returned (.bool true) ∧ Below w.heap.size w w' := by
  by_cases c : mayA sh at' = 0
  · exact back_ok so ao sn sc an ac sh at' w hs ss ha sa c
  · exact back_no so ao sn sc an ac sh at' w hs ha c
end Go.Proofs.YtpfdiammgdnhmaaGreat
