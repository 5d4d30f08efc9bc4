
/- MoldRounds: the law itself. -/

import Derived.Test.YtpfdiammgdnhmaaGreatRB

namespace Go.Proofs.YtpfdiammgdnhmaaGreat

open Go.RowKit

set_option linter.unusedVariables false

theorem rounds_no (n m : Int) (so ao : Option Addr) (sn sc an ac : Nat) (sh at' : List Int) (w : World) (hs : Rd w so sn sh) (ha : Rd w ao an at') (my : mayA sh at' ≠ 0) :
    Calls Tryz.prog 6 #[.int .i64 n, .int .i64 m, .agg #[.slice so sn sc, .slice ao an ac]] w fun e w' => e = .returned (.bool true) ∧ Below w.heap.size w w' := by
  have k0 := box_below w (.cells #[.slice so sn sc, .slice ao an ac] 25)
  have b0 := allocNew w (.cells #[.slice so sn sc, .slice ao an ac] 25)
  have cB := begun6_any (w.alloc (.cells #[.slice so sn sc, .slice ao an ac] 25))
  have cM := fun V (k : Below w.heap.size w V) => may6_no so ao sn sc an ac sh at' V (hs.below k (Nat.le_refl _)) (ha.below k (Nat.le_refl _)) my
  go_enter Tryz.func6, Tryz.ntmps6
  go_wp2_with (first
    | (go_at_call 8; (with_reducible refine cB.mono ?_); rintro e W1 ⟨rfl, k1⟩; have K1 := k0.trans (k1.mono k0.size); obtain ⟨y0, y1, _, _⟩ := box2 ((k1.block w.heap.size (by simp)).trans b0))
    | (go_at_call 9; (with_reducible refine (cM W1 K1).mono ?_); rintro e W2 ⟨rfl, k2⟩))
  go_ret
  exact ⟨rfl, K1.trans (k2.mono K1.size)⟩
set_option maxHeartbeats 2000000 in
theorem rounds_out (n m : Int) (so ao : Option Addr) (sn sc an ac : Nat) (sh at' : List Int) (w : World) (hs : Rd w so sn sh) (ha : Rd w ao an at') (my : mayA sh at' = 0) (hr : n < -1000000 ∨ 1000000 < n ∨ m < -1000000 ∨ 1000000 < m) :
    Calls Tryz.prog 6 #[.int .i64 n, .int .i64 m, .agg #[.slice so sn sc, .slice ao an ac]] w fun e w' => e = .returned (.bool true) ∧ Below w.heap.size w w' := by
  have k0 := box_below w (.cells #[.slice so sn sc, .slice ao an ac] 25)
  have b0 := allocNew w (.cells #[.slice so sn sc, .slice ao an ac] 25)
  have cB := begun6_any (w.alloc (.cells #[.slice so sn sc, .slice ao an ac] 25))
  have cM := fun V (k : Below w.heap.size w V) => may6_yes so ao sn sc an ac sh at' V (hs.below k (Nat.le_refl _)) (ha.below k (Nat.le_refl _)) my
  cases t1 : decide (n < -1000000) <;> cases t2 : decide (1000000 < n) <;> cases t3 : decide (m < -1000000) <;> cases t4 : decide (1000000 < m)
  · exfalso
    have := of_decide_eq_false t1; have := of_decide_eq_false t2; have := of_decide_eq_false t3; have := of_decide_eq_false t4
    omega
  all_goals
    clear hr
    go_enter Tryz.func6, Tryz.ntmps6
    go_wp2_with (first
      | (go_at_call 8; (with_reducible refine cB.mono ?_); rintro e W1 ⟨rfl, k1⟩; have K1 := k0.trans (k1.mono k0.size); obtain ⟨y0, y1, _, _⟩ := box2 ((k1.block w.heap.size (by simp)).trans b0))
      | (go_at_call 9; (with_reducible refine (cM W1 K1).mono ?_); rintro e W2 ⟨rfl, k2⟩))
    go_ret
    exact ⟨rfl, K1.trans (k2.mono K1.size)⟩

set_option maxHeartbeats 8000000 in
set_option maxRecDepth 20000 in
theorem rounds_ok (n m : Int) (so ao : Option Addr) (sn sc an ac : Nat) (sh at' : List Int) (w : World) (hs : Rd w so sn sh) (ss : Sl so sn sc) (ha : Rd w ao an at') (sa : Sl ao an ac) (my : mayA sh at' = 0) (hn1 : -1000000 ≤ n) (hn2 : n ≤ 1000000) (hm1 : -1000000 ≤ m) (hm2 : m ≤ 1000000) :
    Calls Tryz.prog 6 #[.int .i64 n, .int .i64 m, .agg #[.slice so sn sc, .slice ao an ac]] w fun e w' => e = .returned (.bool true) ∧ Below w.heap.size w w' := by
  have k0 := box_below w (.cells #[.slice so sn sc, .slice ao an ac] 25)
  have b0 := allocNew w (.cells #[.slice so sn sc, .slice ao an ac] 25)
  have cB := begun6_any (w.alloc (.cells #[.slice so sn sc, .slice ao an ac] 25))
  have cM := fun V (k : Below w.heap.size w V) => may6_yes so ao sn sc an ac sh at' V (hs.below k (Nat.le_refl _)) (ha.below k (Nat.le_refl _)) my
  have t1 : decide (n < -1000000) = false := by simp; omega
  have t2 : decide (1000000 < n) = false := by simp; omega
  have t3 : decide (m < -1000000) = false := by simp; omega
  have t4 : decide (1000000 < m) = false := by simp; omega
  have HMY : Hid (mayA sh at' = 0) := my
  obtain ⟨A1, hA1⟩ : ∃ A, rtA sh at' n = A := ⟨_, rfl⟩
  have HA1 : Hid (rtA sh at' n = A1) := hA1
  have m1 : mayA sh A1 = 0 := by rw [← hA1]; exact rev_may my n
  obtain ⟨A2, hA2⟩ : ∃ A, rtA sh A1 m = A := ⟨_, rfl⟩
  have HA2 : Hid (rtA sh A1 m = A2 ∧ mayA sh A1 = 0) := ⟨hA2, m1⟩
  have E12 : Hid (rtA sh at' (n + m) = A2) := by show _ = _; rw [← hA2, ← hA1]; exact (rtA_add (mayA_zero my).1 (mayA_zero my).2 n m).symm
  have E11 : Hid (rtA sh A1 (-n) = at') := by
    show _ = _
    rw [← hA1, rtA_add (mayA_zero my).1 (mayA_zero my).2, show n + -n = 0 by omega]
    exact rtA_zero (mayA_zero my).1 (mayA_zero my).2
  clear my hA1 m1 hA2
  go_enter Tryz.func6, Tryz.ntmps6
  go_wp2_with (first
    | (go_at_call 8; (with_reducible refine cB.mono ?_); rintro e W1 ⟨rfl, k1⟩; have K1 := k0.trans (k1.mono k0.size); have r1 := (k1.block w.heap.size (by simp)).trans b0; obtain ⟨y0, y1, _, _⟩ := box2 r1)
    | (go_at_call 9; (with_reducible refine (cM W1 K1).mono ?_); rintro e W2 ⟨rfl, k2⟩; have K2 := K1.trans (k2.mono K1.size); have r2 := (k2.block w.heap.size (Array.getElem?_eq_some_iff.1 r1).1).trans r1))
  have BY : Bo W2 w.heap.size so sn sc ao an ac sh at' := ⟨r2, hs.below K2 (Nat.le_refl _), ha.below K2 (Nat.le_refl _), ss, sa⟩
  clear cB cM y0 y1 r1 r2 k1 k2 K1 k0 b0 t1 t2 t3 t4
  have ALLS : ∀ V, Below W2.heap.size W2 V → V.cell? ⟨w.heap.size, 0, none⟩ = some (.slice so sn sc) ∧ V.cell? ⟨w.heap.size, 1, none⟩ = some (.slice ao an ac) ∧ Below W2.heap.size W2 V := fun V k => ⟨(BY.below k).all.1, (BY.below k).all.2, k⟩
  have cS := fun V => scalar6_any n V (by omega) (by omega)
  have cR := fun V xo (k : Below W2.heap.size W2 V) (hx : Rd V xo 1 [n]) => rev_any so ao xo sn sc an ac 1 sh at' n V (BY.below k).s ss (BY.below k).a sa hx HMY.out
  rw [HA1.out] at cR
  have LY := BY.lt
  go_cut [7, 8] (fun s7 s8 V => ∃ gA oA nA cA pA mA dA, s7 = .pointer (some ⟨gA, 0, none⟩) ∧ s8 = .int .i64 0 ∧ Bo V gA oA nA cA pA mA dA sh A1 ∧ Bo V w.heap.size so sn sc ao an ac sh at' ∧ Below w.heap.size w V)
  case first =>
    go_region_held3 (fun V => V.cell? ⟨w.heap.size, 0, none⟩ = some (.slice so sn sc) ∧ V.cell? ⟨w.heap.size, 1, none⟩ = some (.slice ao an ac) ∧ Below W2.heap.size W2 V) (first | exact ALLS _ (by assumption) | exact ALLS _ (Below.refl _ _).drew | exact ALLS _ (box_below W2 _).drew | exact ALLS _ (G1.alloc G1.size _) | exact ALLS _ (G2.alloc G2.size _) | exact ALLS _ (below_set2 _ _ _ _ G2 (by first | exact Nat.le_refl _ | exact G1.size | exact G2.size) (Nat.le_refl _)))
      (first
        | (go_at_call 16; (with_reducible refine (cS (W2.alloc (.cells #[.slice none 0 0, .slice none 0 0] 25)).drew).mono ?_); rintro e v1 ⟨x1, rfl, fx, j1⟩; have G1 : Below W2.heap.size W2 v1 := (box_below W2 _).drew.trans (j1.mono (by simp)); have zz1 := (j1.block W2.heap.size (by simp)).trans (allocNew W2 (.cells #[.slice none 0 0, .slice none 0 0] 25)))
        | (go_at_call 16; (with_reducible refine (cS W2.drew).mono ?_); rintro e v1 ⟨x1, rfl, fx, j1⟩; have G1 : Below W2.heap.size W2 v1 := (Below.refl _ W2).drew.trans j1)
        | (go_at_call 17; (with_reducible refine (cR v1 (some x1) G1 fx.rd).mono ?_); rintro e v2 ⟨oA, nA, cA, pA, mA, dA, rfl, f1, f2, j2⟩; have G2 := G1.trans (j2.mono G1.size); (try (have zz2 := (j2.block _ (Array.getElem?_eq_some_iff.1 zz1).1).trans zz1; obtain ⟨q0, q1, q2, q3⟩ := box2 zz2)))
        | (go_at_call 17; (with_reducible refine (cR (v1.alloc (.cells #[.slice none 0 0, .slice none 0 0] 25)) (some x1) (G1.alloc G1.size _) (fx.rd.below (box_below v1 _) (Nat.le_refl _))).mono ?_); rintro e v2 ⟨oA, nA, cA, pA, mA, dA, rfl, f1, f2, j2⟩; have G2 := (G1.alloc G1.size (.cells #[.slice none 0 0, .slice none 0 0] 25)).trans (j2.mono (G1.alloc G1.size (.cells #[.slice none 0 0, .slice none 0 0] 25)).size); have zz2 := (j2.block v1.heap.size (by simp)).trans (allocNew v1 (.cells #[.slice none 0 0, .slice none 0 0] 25)); obtain ⟨q0, q1, q2, q3⟩ := box2 zz2))
    all_goals
      go_wp2
      go_meet
      case rel =>
        have KK := K2.trans (G2.mono K2.size)
        have gs1 := G1.size
        have gs2 := K2.size
        first
          | exact ⟨_, _, _, _, _, _, _, rfl, rfl, bo_new f1 f2, (BY.below G2).below (box_below v2 _), KK.trans ((box_below v2 _).mono KK.size)⟩
          | exact ⟨_, _, _, _, _, _, _, rfl, rfl, bo_set f1 f2 (by simp) zz2, (BY.below G2).other (by omega) zz2, below_set2 _ _ _ _ KK (by omega) (Nat.le_refl _)⟩
          | exact ⟨_, _, _, _, _, _, _, rfl, rfl, bo_set f1 f2 (by have := j1.size; simp at this; omega) zz2, (BY.below G2).other (by omega) zz2, below_set2 _ _ _ _ KK (by omega) (Nat.le_refl _)⟩
  case rest =>
    clear ALLS cS cR BY LY K2
    obtain ⟨gA, oA, nA, cA, pA, mA, dA, rfl, rfl, BA, BY, KC⟩ := hcut
    have ALLS : ∀ V, Below wc.heap.size wc V → V.cell? ⟨gA, 0, none⟩ = some (.slice oA nA cA) ∧ V.cell? ⟨gA, 1, none⟩ = some (.slice pA mA dA) ∧ Below wc.heap.size wc V := fun V k => ⟨(BA.below k).all.1, (BA.below k).all.2, k⟩
    have cS := fun V => scalar6_any m V (by omega) (by omega)
    have cR := fun V xo (k : Below wc.heap.size wc V) (hx : Rd V xo 1 [m]) => rev_any oA pA xo nA cA mA dA 1 sh A1 m V (BA.below k).s BA.ss (BA.below k).a BA.sa hx HA2.out.2
    rw [HA2.out.1] at cR
    have LY := BY.lt
    have LA := BA.lt
    go_wp2
    go_cut [9, 10] (fun s9 s10 V => ∃ gB oB nB cB pB mB dB, s9 = .pointer (some ⟨gB, 0, none⟩) ∧ s10 = .int .i64 0 ∧ Bo V gB oB nB cB pB mB dB sh A2 ∧ Bo V gA oA nA cA pA mA dA sh A1 ∧ Bo V w.heap.size so sn sc ao an ac sh at' ∧ Below w.heap.size w V)
    case first =>
      go_region_held3 (fun V => V.cell? ⟨gA, 0, none⟩ = some (.slice oA nA cA) ∧ V.cell? ⟨gA, 1, none⟩ = some (.slice pA mA dA) ∧ Below wc.heap.size wc V) (first | exact ALLS _ (by assumption) | exact ALLS _ (Below.refl _ _).drew | exact ALLS _ (box_below wc _).drew | exact ALLS _ (G1.alloc G1.size _) | exact ALLS _ (G2.alloc G2.size _) | exact ALLS _ (below_set2 _ _ _ _ G2 (by first | exact Nat.le_refl _ | exact G1.size | exact G2.size) (Nat.le_refl _)))
        (first
          | (go_at_call 16; (with_reducible refine (cS (wc.alloc (.cells #[.slice none 0 0, .slice none 0 0] 25)).drew).mono ?_); rintro e v1 ⟨x1, rfl, fx, j1⟩; have G1 : Below wc.heap.size wc v1 := (box_below wc _).drew.trans (j1.mono (by simp)); have zz1 := (j1.block wc.heap.size (by simp)).trans (allocNew wc (.cells #[.slice none 0 0, .slice none 0 0] 25)))
          | (go_at_call 16; (with_reducible refine (cS wc.drew).mono ?_); rintro e v1 ⟨x1, rfl, fx, j1⟩; have G1 : Below wc.heap.size wc v1 := (Below.refl _ wc).drew.trans j1)
          | (go_at_call 17; (with_reducible refine (cR v1 (some x1) G1 fx.rd).mono ?_); rintro e v2 ⟨oB, nB, cB, pB, mB, dB, rfl, f1, f2, j2⟩; have G2 := G1.trans (j2.mono G1.size); (try (have zz2 := (j2.block _ (Array.getElem?_eq_some_iff.1 zz1).1).trans zz1; obtain ⟨q0, q1, q2, q3⟩ := box2 zz2)))
          | (go_at_call 17; (with_reducible refine (cR (v1.alloc (.cells #[.slice none 0 0, .slice none 0 0] 25)) (some x1) (G1.alloc G1.size _) (fx.rd.below (box_below v1 _) (Nat.le_refl _))).mono ?_); rintro e v2 ⟨oB, nB, cB, pB, mB, dB, rfl, f1, f2, j2⟩; have G2 := (G1.alloc G1.size (.cells #[.slice none 0 0, .slice none 0 0] 25)).trans (j2.mono (G1.alloc G1.size (.cells #[.slice none 0 0, .slice none 0 0] 25)).size); have zz2 := (j2.block v1.heap.size (by simp)).trans (allocNew v1 (.cells #[.slice none 0 0, .slice none 0 0] 25)); obtain ⟨q0, q1, q2, q3⟩ := box2 zz2))
      all_goals
        go_wp2
        go_meet
        case rel =>
          have KK := KC.trans (G2.mono KC.size)
          have gs1 := G1.size
          have gs2 := KC.size
          first
            | exact ⟨_, _, _, _, _, _, _, rfl, rfl, bo_new f1 f2, (BA.below G2).below (box_below v2 _), (BY.below G2).below (box_below v2 _), KK.trans ((box_below v2 _).mono KK.size)⟩
            | exact ⟨_, _, _, _, _, _, _, rfl, rfl, bo_set f1 f2 (by simp) zz2, (BA.below G2).other (by omega) zz2, (BY.below G2).other (by omega) zz2, below_set2 _ _ _ _ KK (by omega) (Nat.le_refl _)⟩
            | exact ⟨_, _, _, _, _, _, _, rfl, rfl, bo_set f1 f2 (by have := j1.size; simp at this; omega) zz2, (BA.below G2).other (by omega) zz2, (BY.below G2).other (by omega) zz2, below_set2 _ _ _ _ KK (by omega) (Nat.le_refl _)⟩
    case rest =>
      clear ALLS cS cR LY LA KC BA BY
      obtain ⟨gB, oB, nB, cB, pB, mB, dB, rfl, rfl, BB, BA, BY, KD⟩ := hcut
      have ALLS : ∀ V, Below wc.heap.size wc V → V.cell? ⟨w.heap.size, 0, none⟩ = some (.slice so sn sc) ∧ V.cell? ⟨w.heap.size, 1, none⟩ = some (.slice ao an ac) ∧ V.cell? ⟨gA, 0, none⟩ = some (.slice oA nA cA) ∧ V.cell? ⟨gA, 1, none⟩ = some (.slice pA mA dA) ∧ V.cell? ⟨gB, 0, none⟩ = some (.slice oB nB cB) ∧ V.cell? ⟨gB, 1, none⟩ = some (.slice pB mB dB) ∧ Below wc.heap.size wc V := fun V k => ⟨(BY.below k).all.1, (BY.below k).all.2, (BA.below k).all.1, (BA.below k).all.2, (BB.below k).all.1, (BB.below k).all.2, k⟩
      have w1 : IntKind.i64.wrap (n + m) = n + m := wrapIn _ (by omega)
      have w2 : IntKind.i64.wrap (-n) = -n := wrapIn _ (by omega)
      have cS1 := fun V => scalar6_any (n + m) V (by omega) (by omega)
      have cS2 := fun V => scalar6_any (-n) V (by omega) (by omega)
      have cB1 := fun V xo (k : Below wc.heap.size wc V) (hx : Rd V xo 1 [n + m]) => both_rev so ao xo oB pB sn sc an ac 1 nB cB mB dB sh at' A2 (n + m) V (BY.below k).s ss (BY.below k).a sa hx (BB.below k).s (BB.below k).a HMY.out E12.out
      have cB2 := fun V xo (k : Below wc.heap.size wc V) (hx : Rd V xo 1 [-n]) => both_rev oA pA xo so ao nA cA mA dA 1 sn sc an ac sh A1 at' (-n) V (BA.below k).s BA.ss (BA.below k).a BA.sa hx (BY.below k).s (BY.below k).a HA2.out.2 E11.out
      go_wp2
      go_region_held3 (fun V => V.cell? ⟨w.heap.size, 0, none⟩ = some (.slice so sn sc) ∧ V.cell? ⟨w.heap.size, 1, none⟩ = some (.slice ao an ac) ∧ V.cell? ⟨gA, 0, none⟩ = some (.slice oA nA cA) ∧ V.cell? ⟨gA, 1, none⟩ = some (.slice pA mA dA) ∧ V.cell? ⟨gB, 0, none⟩ = some (.slice oB nB cB) ∧ V.cell? ⟨gB, 1, none⟩ = some (.slice pB mB dB) ∧ Below wc.heap.size wc V) (first | exact ALLS _ (by assumption) | exact ALLS _ (Below.refl _ _).drew)
        (first
          | (go_at_call 16; (with_reducible refine (cS1 wc.drew).mono ?_); rintro e v1 ⟨x1, rfl, fx1, j1⟩; have G1 : Below wc.heap.size wc v1 := (Below.refl _ wc).drew.trans j1)
          | (go_at_call 15; (with_reducible refine (cB1 v1 (some x1) G1 fx1.rd).mono ?_); rintro e v2 ⟨rfl, j2⟩; have G2 := G1.trans (j2.mono G1.size))
          | (go_at_call 16; (with_reducible refine (cS2 v2).mono ?_); rintro e v3 ⟨x3, rfl, fx3, j3⟩; have G3 := G2.trans (j3.mono G2.size))
          | (go_at_call 15; (with_reducible refine (cB2 v3 (some x3) G3 fx3.rd).mono ?_); rintro e v4 ⟨rfl, j4⟩; have G4 := G3.trans (j4.mono G3.size)))
      have BY4 := BY.below G4
      have K4 := KD.trans (G4.mono KD.size)
      clear ALLS cS1 cS2 cB1 cB2 BY BA BB G1 G2 G3 G4 KD w1 w2
      by_cases h0 : sn = 0
      · have t0 : ((sn : Int) == 0) = true := by simp [h0]
        clear h0
        obtain ⟨y0, y1⟩ := BY4.all
        go_wp2
        go_quiet (fail)
        go_wp2
        go_ret
        exact ⟨by simp, below_drewN K4 _⟩
      · have t0 : ((sn : Int) == 0) = false := by simp; omega
        obtain ⟨b, off, rfl, hb, hc⟩ := BY4.s.cells (by omega)
        have c0 := hc 0 (by omega)
        rw [Nat.add_zero] at c0
        have nz := nth_small (mayA_zero HMY.out).1 (k := 0) (by rw [hs.len]; omega)
        have b0 : (0 : Int) < (sn : Int) := by omega
        have b00 : 0 < sn := by omega
        have b01 : ¬ sn ≤ 0 := by omega
        have E0 : Hid (rtA sh at' (nth sh 0) = at') := by
          show _ = _
          cases sh with
          | nil => have := hs.len; simp at this; omega
          | cons z r =>
            have h1 : 0 ≤ z := nz.1
            exact rtA_self (mayA_zero HMY.out).1 (mayA_zero HMY.out).2 (by rw [Int.toNat_of_nonneg h1]; exact Int.emod_self)
        have ALLS : ∀ V, Below v4.heap.size v4 V → V.cell? ⟨w.heap.size, 0, none⟩ = some (.slice (some ⟨b, off, none⟩) sn sc) ∧ V.cell? ⟨w.heap.size, 1, none⟩ = some (.slice ao an ac) ∧ V.cell? ⟨b, off, none⟩ = some (.int .i64 (nth sh 0)) ∧ Below v4.heap.size v4 V := fun V k => ⟨(BY4.below k).all.1, (BY4.below k).all.2, (k.cell (p := ⟨b, off, none⟩) hb).trans c0, k⟩
        have cS := fun V => scalar6_any (nth sh 0) V (by omega) (by omega)
        have cB := fun V xo (k : Below v4.heap.size v4 V) (hx : Rd V xo 1 [nth sh 0]) => both_rev (some ⟨b, off, none⟩) ao xo (some ⟨b, off, none⟩) ao sn sc an ac 1 sn sc an ac sh at' at' (nth sh 0) V (BY4.below k).s ss (BY4.below k).a sa hx (BY4.below k).s (BY4.below k).a HMY.out E0.out
        clear hc h0
        generalize nth sh 0 = Z0 at *
        go_wp2
        go_region_held3 (fun V => V.cell? ⟨w.heap.size, 0, none⟩ = some (.slice (some ⟨b, off, none⟩) sn sc) ∧ V.cell? ⟨w.heap.size, 1, none⟩ = some (.slice ao an ac) ∧ V.cell? ⟨b, off, none⟩ = some (.int .i64 Z0) ∧ Below v4.heap.size v4 V) (first | exact ALLS _ (by assumption) | exact ALLS _ (Below.refl _ _).drew)
          (first
            | (go_at_call 16; (with_reducible refine (cS v4.drew).mono ?_); rintro e v5 ⟨x5, rfl, fx5, j5⟩; have G5 : Below v4.heap.size v4 v5 := (Below.refl _ v4).drew.trans j5)
            | (go_at_call 15; (with_reducible refine (cB v5 (some x5) G5 fx5.rd).mono ?_); rintro e v6 ⟨rfl, j6⟩; have G6 := G5.trans (j6.mono G5.size)))
        go_wp2
        go_ret
        exact ⟨rfl, K4.trans (G6.mono K4.size)⟩

theorem rounds_walk (n m : Int) (so ao : Option Addr) (sn sc an ac : Nat) (sh at' : List Int) (w : World) (hs : Rd w so sn sh) (ss : Sl so sn sc) (ha : Rd w ao an at') (sa : Sl ao an ac) :
    Calls Tryz.prog 6 #[.int .i64 n, .int .i64 m, .agg #[.slice so sn sc, .slice ao an ac]] w fun e w' => e = .returned (.bool true) ∧ Below w.heap.size w w' := by
  by_cases c : mayA sh at' = 0
  · by_cases h : n < -1000000 ∨ 1000000 < n ∨ m < -1000000 ∨ 1000000 < m
    · exact rounds_out n m so ao sn sc an ac sh at' w hs ha c h
    · exact rounds_ok n m so ao sn sc an ac sh at' w hs ss ha sa c (by omega) (by omega) (by omega) (by omega)
  · exact rounds_no n m so ao sn sc an ac sh at' w hs ha c
end Go.Proofs.YtpfdiammgdnhmaaGreat
