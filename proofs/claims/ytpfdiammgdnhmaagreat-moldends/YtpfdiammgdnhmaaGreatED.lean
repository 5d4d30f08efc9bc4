
/- MoldEnds: the law itself. -/

import Derived.Test.YtpfdiammgdnhmaaGreatEC

namespace Go.Proofs.YtpfdiammgdnhmaaGreat

open Go.RowKit

set_option linter.unusedVariables false

theorem ends_no (so ao : Option Addr) (sn sc an ac : Nat) (sh at' : List Int) (w : World) (hs : Rd w so sn sh) (ha : Rd w ao an at') (my : mayA sh at' ≠ 0) :
    Calls Tryz.prog 4 #[.agg #[.slice so sn sc, .slice ao an ac]] w fun e w' => e = .returned (.bool true) ∧ Below w.heap.size w w' := by
  have k0 := box_below w (.cells #[.slice so sn sc, .slice ao an ac] 25)
  have b0 := allocNew w (.cells #[.slice so sn sc, .slice ao an ac] 25)
  have cB := begun6_any (w.alloc (.cells #[.slice so sn sc, .slice ao an ac] 25))
  have cM := fun V (k : Below w.heap.size w V) => may6_no so ao sn sc an ac sh at' V (hs.below k (Nat.le_refl _)) (ha.below k (Nat.le_refl _)) my
  go_enter Tryz.func4, Tryz.ntmps4
  go_wp2_with (first | (go_at_call 8; (with_reducible refine cB.mono ?_); rintro e W1 ⟨rfl, k1⟩; have K1 := k0.trans (k1.mono k0.size); have r1 := (k1.block w.heap.size (by simp)).trans b0; obtain ⟨y0, y1, _, _⟩ := box2 r1) | (go_at_call 9; (with_reducible refine (cM W1 K1).mono ?_); rintro e W2 ⟨rfl, k2⟩; have K2 := K1.trans (k2.mono K1.size); have r2 := (k2.block w.heap.size (Array.getElem?_eq_some_iff.1 r1).1).trans r1; obtain ⟨u0, u1, _, _⟩ := box2 r2))
  go_ret
  exact ⟨rfl, K2⟩
theorem ends_sc (so ao : Option Addr) (sn sc an ac : Nat) (at' : List Int) (w : World) (hs : Rd w so sn []) (ha : Rd w ao an at') (my : mayA [] at' = 0) :
    Calls Tryz.prog 4 #[.agg #[.slice so sn sc, .slice ao an ac]] w fun e w' => e = .returned (.bool true) ∧ Below w.heap.size w w' := by
  obtain rfl : sn = 0 := hs.len.symm
  have k0 := box_below w (.cells #[.slice so 0 sc, .slice ao an ac] 25)
  have b0 := allocNew w (.cells #[.slice so 0 sc, .slice ao an ac] 25)
  have cB := begun6_any (w.alloc (.cells #[.slice so 0 sc, .slice ao an ac] 25))
  have cM := fun V (k : Below w.heap.size w V) => may6_yes so ao 0 sc an ac [] at' V (hs.below k (Nat.le_refl _)) (ha.below k (Nat.le_refl _)) my
  go_enter Tryz.func4, Tryz.ntmps4
  go_wp2_with (first | (go_at_call 8; (with_reducible refine cB.mono ?_); rintro e W1 ⟨rfl, k1⟩; have K1 := k0.trans (k1.mono k0.size); have r1 := (k1.block w.heap.size (by simp)).trans b0; obtain ⟨y0, y1, _, _⟩ := box2 r1) | (go_at_call 9; (with_reducible refine (cM W1 K1).mono ?_); rintro e W2 ⟨rfl, k2⟩; have K2 := K1.trans (k2.mono K1.size); have r2 := (k2.block w.heap.size (Array.getElem?_eq_some_iff.1 r1).1).trans r1; obtain ⟨u0, u1, _, _⟩ := box2 r2))
  go_ret
  exact ⟨rfl, K2⟩
theorem ends_zero (so ao : Option Addr) (sn sc an ac : Nat) (r at' : List Int) (w : World) (hs : Rd w so sn (0 :: r)) (ha : Rd w ao an at') (my : mayA (0 :: r) at' = 0) :
    Calls Tryz.prog 4 #[.agg #[.slice so sn sc, .slice ao an ac]] w fun e w' => e = .returned (.bool true) ∧ Below w.heap.size w w' := by
  have k0 := box_below w (.cells #[.slice so sn sc, .slice ao an ac] 25)
  have b0 := allocNew w (.cells #[.slice so sn sc, .slice ao an ac] 25)
  have cB := begun6_any (w.alloc (.cells #[.slice so sn sc, .slice ao an ac] 25))
  have cM := fun V (k : Below w.heap.size w V) => may6_yes so ao sn sc an ac (0 :: r) at' V (hs.below k (Nat.le_refl _)) (ha.below k (Nat.le_refl _)) my
  have hsl : r.length + 1 = sn := by have := hs.len; simpa using this
  have hsn0 : 0 < sn := by omega
  have t0 : ((sn : Int) == 0) = false := by simp; omega
  obtain ⟨b, off, rfl, hb, hc⟩ := hs.cells hsn0
  have c0 : w.cell? ⟨b, off, none⟩ = some (.int .i64 0) := hc 0 hsn0
  have b00 : (0 : Int) < (sn : Int) := by omega
  clear hc hsl
  go_enter Tryz.func4, Tryz.ntmps4
  go_wp2_with (first | (go_at_call 8; (with_reducible refine cB.mono ?_); rintro e W1 ⟨rfl, k1⟩; have K1 := k0.trans (k1.mono k0.size); have r1 := (k1.block w.heap.size (by simp)).trans b0; obtain ⟨y0, y1, _, _⟩ := box2 r1) | (go_at_call 9; (with_reducible refine (cM W1 K1).mono ?_); rintro e W2 ⟨rfl, k2⟩; have K2 := K1.trans (k2.mono K1.size); have r2 := (k2.block w.heap.size (Array.getElem?_eq_some_iff.1 r1).1).trans r1; obtain ⟨u0, u1, _, _⟩ := box2 r2; have cz2 := (K2.cell (p := ⟨b, off, none⟩) hb).trans c0))
  go_ret
  exact ⟨rfl, K2⟩

set_option maxHeartbeats 8000000 in
set_option maxRecDepth 20000 in
theorem ends_ok (so ao : Option Addr) (sn sc an ac : Nat) (z : Int) (r at' : List Int) (w : World) (hs : Rd w so sn (z :: r)) (ss : Sl so sn sc) (ha : Rd w ao an at') (sa : Sl ao an ac) (my : mayA (z :: r) at' = 0) (h1 : 1 ≤ z) :
    Calls Tryz.prog 4 #[.agg #[.slice so sn sc, .slice ao an ac]] w fun e w' => e = .returned (.bool true) ∧ Below w.heap.size w w' := by
  have k0 := box_below w (.cells #[.slice so sn sc, .slice ao an ac] 25)
  have b0 := allocNew w (.cells #[.slice so sn sc, .slice ao an ac] 25)
  have cB := begun6_any (w.alloc (.cells #[.slice so sn sc, .slice ao an ac] 25))
  have cM := fun V (k : Below w.heap.size w V) => may6_yes so ao sn sc an ac (z :: r) at' V (hs.below k (Nat.le_refl _)) (ha.below k (Nat.le_refl _)) my
  obtain ⟨m1, m2⟩ := mayA_zero my
  have hz4 : 0 ≤ z ∧ z ≤ 4096 := nth_small m1 (k := 0) (by simp)
  have hsl : r.length + 1 = sn := by have := hs.len; simpa using this
  have hsn0 : 0 < sn := by omega
  have t0 : ((sn : Int) == 0) = false := by simp; omega
  have t1 : (z == 0) = false := by simp; omega
  obtain ⟨b, off, rfl, hb, hc⟩ := hs.cells hsn0
  have c0 : w.cell? ⟨b, off, none⟩ = some (.int .i64 z) := hc 0 hsn0
  have b00 : (0 : Int) < (sn : Int) := by omega
  have cT1 := fun V (B : Bo V w.heap.size (some ⟨b, off, none⟩) sn sc ao an ac (z :: r) at') => head_any (some ⟨b, off, none⟩) ao sn sc an ac z r at' V B.s ss B.a sa my h1
  have cT2 := fun V (B : Bo V w.heap.size (some ⟨b, off, none⟩) sn sc ao an ac (z :: r) at') => tail_any (some ⟨b, off, none⟩) ao sn sc an ac z r at' V B.s ss B.a sa my h1
  have cT3 := fun V (B : Bo V w.heap.size (some ⟨b, off, none⟩) sn sc ao an ac (z :: r) at') => rest_any (some ⟨b, off, none⟩) ao sn sc an ac z r at' V B.s ss B.a sa my h1 hz4.2
  have cT4 := fun V (B : Bo V w.heap.size (some ⟨b, off, none⟩) sn sc ao an ac (z :: r) at') => front_any (some ⟨b, off, none⟩) ao sn sc an ac z r at' V B.s ss B.a sa my h1 hz4.2
  have HMY : Hid (mayA (z :: r) at' = 0) := my
  have HM : Hid (mayF (z :: r) = 0) := m1
  have HL : Hid (r.length + 1 = sn) := hsl
  obtain ⟨A1, hA1⟩ : ∃ A, at'.take (pr r).toNat = A := ⟨_, rfl⟩
  obtain ⟨A2, hA2⟩ : ∃ A, at'.drop ((z.toNat - 1) * (pr r).toNat) = A := ⟨_, rfl⟩
  obtain ⟨A3, hA3⟩ : ∃ A, at'.drop (pr r).toNat = A := ⟨_, rfl⟩
  obtain ⟨A4, hA4⟩ : ∃ A, at'.take ((z.toNat - 1) * (pr r).toNat) = A := ⟨_, rfl⟩
  have em := ends_may my h1
  have ej := ends_join my h1
  rw [hA1] at cT1
  rw [hA2] at cT2
  rw [hA3] at cT3
  rw [hA4] at cT4
  rw [hA1, hA2, hA3, hA4] at em
  rw [hA1, hA2, hA3, hA4] at ej
  have EM : Hid (mayA (1 :: r) A1 = 0 ∧ mayA (1 :: r) A2 = 0 ∧ mayA ((z - 1) :: r) A3 = 0 ∧ mayA ((z - 1) :: r) A4 = 0 ∧ A1 ++ A3 = at' ∧ A4 ++ A2 = at') := ⟨em.2.1, em.2.2.2.1, em.2.2.2.2.1, em.2.2.2.2.2, ej.1, ej.2⟩
  clear my m1 m2 hc hsl em ej hA1 hA2 hA3 hA4
  go_enter Tryz.func4, Tryz.ntmps4
  go_wp2_with (first
    | (go_at_call 8; (with_reducible refine cB.mono ?_); rintro e W1 ⟨rfl, k1⟩; have K1 := k0.trans (k1.mono k0.size); have r1 := (k1.block w.heap.size (by simp)).trans b0; obtain ⟨y0, y1, _, _⟩ := box2 r1)
    | (go_at_call 9; (with_reducible refine (cM W1 K1).mono ?_); rintro e W2 ⟨rfl, k2⟩; have K2 := K1.trans (k2.mono K1.size); have r2 := (k2.block w.heap.size (Array.getElem?_eq_some_iff.1 r1).1).trans r1; obtain ⟨u0, u1, _, _⟩ := box2 r2; have cz2 := (K2.cell (p := ⟨b, off, none⟩) hb).trans c0; have Y0 : Bo W2 w.heap.size (some ⟨b, off, none⟩) sn sc ao an ac (z :: r) at' := ⟨r2, hs.below K2 (Nat.le_refl _), ha.below K2 (Nat.le_refl _), ss, sa⟩; have Q0 := K2)
    | (go_at_call 11; (with_reducible refine (cT1 W2 Y0).mono ?_); rintro e v1 ⟨o1, n1, c1, p1, m1, d1, rfl, f1, g1, j1⟩; have B1x1 := bo_new f1 g1; have Y1 := (Y0.below j1).below (box_below v1 (.cells #[.slice o1 n1 c1, .slice p1 m1 d1] 25)); have Q1 := Q0.trans ((j1.mono Q0.size).trans ((box_below v1 (.cells #[.slice o1 n1 c1, .slice p1 m1 d1] 25)).mono (Nat.le_trans Q0.size j1.size))); obtain ⟨ya1, yb1⟩ := Y1.all)
    | (go_at_call 11; (with_reducible refine (cT2 (v1.alloc (.cells #[.slice o1 n1 c1, .slice p1 m1 d1] 25)) Y1).mono ?_); rintro e v2 ⟨o2, n2, c2, p2, m2, d2, rfl, f2, g2, j2⟩; have B2x2 := bo_new f2 g2; have B1x2 := (B1x1.below j2).below (box_below v2 (.cells #[.slice o2 n2 c2, .slice p2 m2 d2] 25)); have Y2 := (Y1.below j2).below (box_below v2 (.cells #[.slice o2 n2 c2, .slice p2 m2 d2] 25)); have Q2 := Q1.trans ((j2.mono Q1.size).trans ((box_below v2 (.cells #[.slice o2 n2 c2, .slice p2 m2 d2] 25)).mono (Nat.le_trans Q1.size j2.size))); obtain ⟨ya2, yb2⟩ := Y2.all)
    | (go_at_call 10; (with_reducible refine (cT3 (v2.alloc (.cells #[.slice o2 n2 c2, .slice p2 m2 d2] 25)) Y2).mono ?_); rintro e v3 ⟨o3, n3, c3, p3, m3, d3, rfl, f3, g3, j3⟩; have B3x3 := bo_new f3 g3; have B1x3 := (B1x2.below j3).below (box_below v3 (.cells #[.slice o3 n3 c3, .slice p3 m3 d3] 25)); have B2x3 := (B2x2.below j3).below (box_below v3 (.cells #[.slice o3 n3 c3, .slice p3 m3 d3] 25)); have Y3 := (Y2.below j3).below (box_below v3 (.cells #[.slice o3 n3 c3, .slice p3 m3 d3] 25)); have Q3 := Q2.trans ((j3.mono Q2.size).trans ((box_below v3 (.cells #[.slice o3 n3 c3, .slice p3 m3 d3] 25)).mono (Nat.le_trans Q2.size j3.size))); obtain ⟨ya3, yb3⟩ := Y3.all)
    | (go_at_call 10; (with_reducible refine (cT4 (v3.alloc (.cells #[.slice o3 n3 c3, .slice p3 m3 d3] 25)) Y3).mono ?_); rintro e v4 ⟨o4, n4, c4, p4, m4, d4, rfl, f4, g4, j4⟩; have B4x4 := bo_new f4 g4; have B1x4 := (B1x3.below j4).below (box_below v4 (.cells #[.slice o4 n4 c4, .slice p4 m4 d4] 25)); have B2x4 := (B2x3.below j4).below (box_below v4 (.cells #[.slice o4 n4 c4, .slice p4 m4 d4] 25)); have B3x4 := (B3x3.below j4).below (box_below v4 (.cells #[.slice o4 n4 c4, .slice p4 m4 d4] 25)); have Y4 := (Y3.below j4).below (box_below v4 (.cells #[.slice o4 n4 c4, .slice p4 m4 d4] 25)); have Q4 := Q3.trans ((j4.mono Q3.size).trans ((box_below v4 (.cells #[.slice o4 n4 c4, .slice p4 m4 d4] 25)).mono (Nat.le_trans Q3.size j4.size))); obtain ⟨ya4, yb4⟩ := Y4.all))
  have cz4 := (Q4.cell (p := ⟨b, off, none⟩) hb).trans c0
  have LB : b < v4.heap.size + 1 := by have := Q4.size; simp at this; omega
  clear cB cM y0 y1 u0 u1 r1 r2 k1 k2 K1 k0 b0 cz2 c0 cT1 cT2 cT3 cT4
  clear t0 t1 ya1 yb1 ya2 yb2 ya3 yb3 ya4 yb4 Y0 Y1 Y2 Y3 Q0 Q1 Q2 Q3 B1x1 B1x2 B1x3 B2x2 B2x3 B3x3 f1 g1 f2 g2 f3 g3 f4 g4 j1 j2 j3 j4 K2
  have hsz : (v4.alloc (.cells #[.slice o4 n4 c4, .slice p4 m4 d4] 25)).heap.size = v4.heap.size + 1 := by simp
  rw [← hsz] at LB
  clear hsz
  generalize hV4 : v4.alloc (.cells #[.slice o4 n4 c4, .slice p4 m4 d4] 25) = V4 at *
  clear hV4
  have ALLS : ∀ V, Below V4.heap.size V4 V → V.cell? ⟨w.heap.size, 0, none⟩ = some (.slice (some ⟨b, off, none⟩) sn sc) ∧ V.cell? ⟨w.heap.size, 1, none⟩ = some (.slice ao an ac) ∧ V.cell? ⟨b, off, none⟩ = some (.int .i64 z) ∧ Below V4.heap.size V4 V := fun V k => ⟨(Y4.below k).all.1, (Y4.below k).all.2, (k.cell (p := ⟨b, off, none⟩) LB).trans cz4, k⟩
  have cS := fun V => scalar6_any z V (by omega) (by omega)
  have cD := fun V xo (k : Below V4.heap.size V4 V) (hx : Rd V xo 1 [z]) => tally_does (some ⟨b, off, none⟩) ao xo sn sc an ac 1 z r at' V (Y4.below k).s (Y4.below k).a HMY.out h1 hz4.2 hx
  go_region_held3 (fun V => V.cell? ⟨w.heap.size, 0, none⟩ = some (.slice (some ⟨b, off, none⟩) sn sc) ∧ V.cell? ⟨w.heap.size, 1, none⟩ = some (.slice ao an ac) ∧ V.cell? ⟨b, off, none⟩ = some (.int .i64 z) ∧ Below V4.heap.size V4 V) (first | exact ALLS _ (by assumption) | exact ALLS _ (Below.refl _ _).drew)
    (first
      | (go_at_call 16; (with_reducible refine (cS V4.drew).mono ?_); rintro e v5 ⟨x5, rfl, fx5, j5⟩; have G5 : Below V4.heap.size V4 v5 := (Below.refl _ V4).drew.trans j5)
      | (go_at_call 13; (with_reducible refine (cD v5 (some x5) G5 fx5.rd).mono ?_); rintro e v6 ⟨rfl, j6⟩; have G6 := G5.trans (j6.mono G5.size)))
  have Y6 := Y4.below G6
  have D1 := B1x4.below G6
  have D2 := B2x4.below G6
  have D3 := B3x4.below G6
  have D4 := B4x4.below G6
  have K6 := Q4.trans (G6.mono Q4.size)
  have l1 : r.length + 1 = n1 := by have := D1.s.len; simpa using this
  have l2 : r.length + 1 = n2 := by have := D2.s.len; simpa using this
  have l3 : r.length + 1 = n3 := by have := D3.s.len; simpa using this
  have l4 : r.length + 1 = n4 := by have := D4.s.len; simpa using this
  have cX1 := both_rav o1 p1 o3 p3 (some ⟨b, off, none⟩) ao n1 c1 m1 d1 n3 c3 m3 d3 sn sc an ac (1 :: r) A1 ((z - 1) :: r) A3 (z :: r) at' v6 D1.s D1.ss D1.a D3.s D3.ss D3.a Y6.s Y6.a EM.out.1 EM.out.2.2.1 (by omega) (by omega) rfl (by show (1 + (z - 1)) :: r = z :: r; rw [show 1 + (z - 1) = z by omega]) EM.out.2.2.2.2.1 HM.out
  have cX2 := fun V (k : Below v6.heap.size v6 V) => both_rav o4 p4 o2 p2 (some ⟨b, off, none⟩) ao n4 c4 m4 d4 n2 c2 m2 d2 sn sc an ac ((z - 1) :: r) A4 (1 :: r) A2 (z :: r) at' V (D4.below k).s D4.ss (D4.below k).a (D2.below k).s D2.ss (D2.below k).a (Y6.below k).s (Y6.below k).a EM.out.2.2.2.1 EM.out.2.1 (by omega) (by omega) rfl (by show (z - 1 + 1) :: r = z :: r; rw [show z - 1 + 1 = z by omega]) EM.out.2.2.2.2.2 HM.out
  obtain ⟨q1, q2⟩ := D1.all
  obtain ⟨q3, q4⟩ := D3.all
  obtain ⟨q5, q6⟩ := Y6.all
  clear ALLS cS cD
  go_wp2_with (first
    | (go_at_call 15; (with_reducible refine cX1.mono ?_); rintro e v7 ⟨rfl, j7⟩; obtain ⟨q7, q8⟩ := (D4.below j7).all; obtain ⟨q9, q10⟩ := (D2.below j7).all; obtain ⟨q11, q12⟩ := (Y6.below j7).all)
    | (go_at_call 15; (with_reducible refine (cX2 v7 j7).mono ?_); rintro e v8 ⟨rfl, j8⟩))
  go_ret
  have K7 := K6.trans (j7.mono K6.size)
  exact ⟨rfl, K7.trans (j8.mono K7.size)⟩

theorem ends_walk (so ao : Option Addr) (sn sc an ac : Nat) (sh at' : List Int) (w : World) (hs : Rd w so sn sh) (ss : Sl so sn sc) (ha : Rd w ao an at') (sa : Sl ao an ac) :
    Calls Tryz.prog 4 #[.agg #[.slice so sn sc, .slice ao an ac]] w fun e w' => e = .returned (.bool true) ∧ Below w.heap.size w w' := by
  by_cases c : mayA sh at' = 0
  · cases sh with
    | nil => exact ends_sc so ao sn sc an ac at' w hs ha c
    | cons z r =>
      have h0 : 0 ≤ z := (mayF_zero (mayA_zero c).1).1 0 (by simp)
      by_cases h : z = 0
      · subst h
        exact ends_zero so ao sn sc an ac r at' w hs ha c
      · exact ends_ok so ao sn sc an ac z r at' w hs ss ha sa c (by omega)
  · exact ends_no so ao sn sc an ac sh at' w hs ha c
end Go.Proofs.YtpfdiammgdnhmaaGreat
