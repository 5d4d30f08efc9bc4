
/- MoldMoves: where op 33 refuses. -/

import Derived.Test.YtldhochafkcpiaaGreatMVa

namespace Go.Proofs.YtldhochafkcpiaaGreat

open Go.RowKit

set_option linter.unusedVariables false

set_option maxHeartbeats 8000000 in
set_option maxRecDepth 20000 in
theorem moves_err (xo so ao : Option Addr) (xn xc sn sc an ac : Nat) (xs sy ay : List Int) (w : World) (hx : Rd w xo xn xs) (sx : Sl xo xn xc) (hs : Rd w so sn sy) (ss : Sl so sn sc) (ha : Rd w ao an ay) (sa : Sl ao an ac) (E : Int) (hE : E ≠ 0) (mb : Bool) (lb : Bool)
    (hc : ∀ V o1 o2 c2, Below w.heap.size w V → Rd V (some o1) 1 [(xn : Int)] → Rd V o2 xn xs → Calls Tryz.prog 5 #[.int .i64 33, .agg #[.slice (some o1) 1 1, .slice o2 xn c2], .agg #[.slice so sn sc, .slice ao an ac]] V fun e w' => Ans V V.heap.size [] [] E e w') (hlb : decide (4096 < xn) = lb)
    (hmay : ∀ V, Below w.heap.size w V → Calls Tryz.prog 7 #[.agg #[.slice so sn sc, .slice ao an ac]] V fun e w' => e = .returned (.bool mb) ∧ Below V.heap.size V w') :
    Calls Tryz.prog 3 #[.slice xo xn xc, .agg #[.slice so sn sc, .slice ao an ac]] w fun e w' => e = .returned (.bool true) ∧ Below w.heap.size w w' := by
  have k0 := box_below w (.cells #[.slice so sn sc, .slice ao an ac] 25)
  have b0 := allocNew w (.cells #[.slice so sn sc, .slice ao an ac] 25)
  have cB := begun6_any (w.alloc (.cells #[.slice so sn sc, .slice ao an ac] 25))
  have tE : (E != 0) = true := by simpa using hE
  have hlb' : decide ((4096 : Int) < (xn : Int)) = lb := by rw [← hlb]; exact decide_eq_decide.2 (by omega)
  clear hE
  go_enter Tryz.func3, Tryz.ntmps3
  go_upto_region 4 with (go_at_call 4; (with_reducible refine cB.mono ?_); rintro e W2 ⟨rfl, k1⟩; have K2 := k0.trans (k1.mono k0.size); have r2 := (k1.block w.heap.size (by simp)).trans b0; obtain ⟨y0, y1, _, _⟩ := box2 r2)
  have BY : Bo W2 w.heap.size so sn sc ao an ac sy ay := ⟨r2, hs.below K2 (Nat.le_refl _), ha.below K2 (Nat.le_refl _), ss, sa⟩
  have ALLS : ∀ V, Below W2.heap.size W2 V → V.cell? ⟨w.heap.size, 0, none⟩ = some (.slice so sn sc) ∧ V.cell? ⟨w.heap.size, 1, none⟩ = some (.slice ao an ac) ∧ Below W2.heap.size W2 V := fun V k => ⟨(BY.below k).all.1, (BY.below k).all.2, k⟩
  have cS := fun V (k : Below W2.heap.size W2 V) => list6_gen xo xn xc xs V (hx.below (K2.trans (k.mono K2.size)) (Nat.le_refl _)) sx
  have cR := fun V o1 o2 c2 (k : Below W2.heap.size W2 V) h1 h2 => hc V o1 o2 c2 (K2.trans (k.mono K2.size)) h1 h2
  have LY := BY.lt
  clear cB k1 r2 b0 k0 hc y0 y1
  go_cut [6, 7] from 22 to 28 (fun s6 s7 V => ∃ gA oA nA cA pA mA dA, s6 = .pointer (some ⟨gA, 0, none⟩) ∧ s7 = .int .i64 E ∧ Bo V gA oA nA cA pA mA dA [] [] ∧ Bo V w.heap.size so sn sc ao an ac sy ay ∧ Below w.heap.size w V)
  case first =>
    go_region_held3 (fun V => V.cell? ⟨w.heap.size, 0, none⟩ = some (.slice so sn sc) ∧ V.cell? ⟨w.heap.size, 1, none⟩ = some (.slice ao an ac) ∧ Below W2.heap.size W2 V) (first | exact ALLS _ (by assumption) | exact ALLS _ (Below.refl _ _).drew | exact ALLS _ (box_below W2 _).drew | exact ALLS _ (G1.alloc G1.size _) | exact ALLS _ (G2.alloc G2.size _) | exact ALLS _ (below_set2 _ _ _ _ G2 (by first | exact Nat.le_refl _ | exact G1.size | exact G2.size) (Nat.le_refl _)))
      (first
        | (go_at_call 6; (with_reducible refine (cS (W2.alloc (.cells #[.slice none 0 0, .slice none 0 0] 25)).drew (box_below W2 _).drew).mono ?_); rintro e v1 ⟨x1, x2, x3, rfl, fx1, fx2, j1⟩; have G1 : Below W2.heap.size W2 v1 := (box_below W2 _).drew.trans (j1.mono (by simp)); have zz1 := (j1.block W2.heap.size (by simp)).trans (allocNew W2 (.cells #[.slice none 0 0, .slice none 0 0] 25)))
        | (go_at_call 6; (with_reducible refine (cS W2.drew (Below.refl _ W2).drew).mono ?_); rintro e v1 ⟨x1, x2, x3, rfl, fx1, fx2, j1⟩; have G1 : Below W2.heap.size W2 v1 := (Below.refl _ W2).drew.trans j1)
        | (go_at_call 5; (with_reducible refine (cR v1 x1 x2 x3 G1 fx1.rd fx2.rd).mono ?_); rintro e v2 ⟨oA, nA, cA, pA, mA, dA, rfl, f1, f2, j2⟩; have G2 := G1.trans (j2.mono G1.size); (try (have zz2 := (j2.block _ (Array.getElem?_eq_some_iff.1 zz1).1).trans zz1; obtain ⟨q0, q1, q2, q3⟩ := box2 zz2)))
        | (go_at_call 5; (with_reducible refine (cR (v1.alloc (.cells #[.slice none 0 0, .slice none 0 0] 25)) x1 x2 x3 (G1.alloc G1.size _) (fx1.rd.below (box_below v1 _) (Nat.le_refl _)) (fx2.rd.below (box_below v1 _) (Nat.le_refl _))).mono ?_); rintro e v2 ⟨oA, nA, cA, pA, mA, dA, rfl, f1, f2, j2⟩; have G2 := (G1.alloc G1.size (.cells #[.slice none 0 0, .slice none 0 0] 25)).trans (j2.mono (G1.alloc G1.size (.cells #[.slice none 0 0, .slice none 0 0] 25)).size); have zz2 := (j2.block v1.heap.size (by simp)).trans (allocNew v1 (.cells #[.slice none 0 0, .slice none 0 0] 25)); obtain ⟨q0, q1, q2, q3⟩ := box2 zz2))
    all_goals
      go_wp2
      go_meet
      case rel =>
        have KK := K2.trans (G2.mono K2.size)
        have gs1 := G1.size
        have gs2 := K2.size
        first
          | exact ⟨_, _, _, _, _, _, _, rfl, rfl, bo_new f1 f2, (BY.below G2).below (box_below v2 _), KK.trans ((box_below v2 _).mono KK.size)⟩
          | exact ⟨_, _, _, _, _, _, _, rfl, rfl, bo_set f1 f2 (by simp) zz2, (BY.below G2).other (by omega) zz2, below_set2 _ _ _ _ KK (by omega) (Nat.le_refl _)⟩
          | exact ⟨_, _, _, _, _, _, _, rfl, rfl, bo_set f1 f2 (by have := j1.size; simp at this; omega) zz2, (BY.below G2).other (by omega) zz2, below_set2 _ _ _ _ KK (by omega) (Nat.le_refl _)⟩
  case rest =>
    clear ALLS cS cR BY LY K2
    obtain ⟨gA, oA, nA, cA, pA, mA, dA, rfl, rfl, BA, BY, KC⟩ := hcut
    obtain rfl : nA = 0 := BA.s.len.symm
    obtain rfl : mA = 0 := BA.a.len.symm
    obtain ⟨a0, a1⟩ := BA.all
    obtain ⟨c0, c1⟩ := BY.all
    have cM := hmay wc KC
    clear hmay
    cases mb <;> cases lb
    all_goals
      go_wp2_with (go_at_call 7; (with_reducible refine cM.mono ?_); rintro e w5 ⟨rfl, k5⟩; have BA5 := BA.below k5; obtain ⟨d0, d1⟩ := BA5.all; have K5 := KC.trans (k5.mono KC.size))
      go_ret
      exact ⟨rfl, K5⟩
end Go.Proofs.YtldhochafkcpiaaGreat
