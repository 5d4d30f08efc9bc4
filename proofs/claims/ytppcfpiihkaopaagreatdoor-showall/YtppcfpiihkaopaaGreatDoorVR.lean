
/- Contracts of Text and of begun. -/

import Derived.Test.YtppcfpiihkaopaaGreatDoorVP

import Derived.Test.YtppcfpiihkaopaaGreatDoorVQ

import Derived.Test.YtppcfpiihkaopaaGreatDoorL2

namespace Go.Proofs.YtppcfpiihkaopaaGreatDoor

open Go.RowKit

set_option linter.unusedVariables false

/-- What Text writes. -/
def txt (S A : List Int) : List UInt8 := if S.length < 2 then inL A else txK S A (nth S (S.length - 1)).toNat A.length A.length
set_option maxHeartbeats 1000000 in
theorem text_no (so ao : Option Addr) (sn sc an ac : Nat) (S A : List Int) (w : World) (h : Rd w so sn S) (g : Rd w ao an A) (my : mayA S A ≠ 0) :
    Calls Tryz.prog 8 #[.agg #[.slice so sn sc, .slice ao an ac]] w fun e w' => e = .returned (.tuple #[.string ⟨#[]⟩, .int .i64 1]) ∧ Below w.heap.size w w' := by
  have k0 := box_below w (.cells #[.slice so sn sc, .slice ao an ac] 36)
  have z0 := allocNew w (.cells #[.slice so sn sc, .slice ao an ac] 36)
  obtain ⟨y0, y1, _, _⟩ := box2 z0
  have cM := mayA_any so ao sn sc an ac S A _ (h.below k0 (Nat.le_refl _)) (g.below k0 (Nat.le_refl _))
  have t : (mayA S A != 0) = true := by simpa using my
  clear my
  go_enter Tryz.func8, Tryz.ntmps8
  go_wp2_with (go_at_call 18; (with_reducible refine cM.mono ?_); rintro e w1 ⟨rfl, k1⟩; have K1 := k0.trans (k1.mono k0.size); have z1 := (k1.block w.heap.size (by simp)).trans z0; obtain ⟨v0, v1, _, _⟩ := box2 z1)
  go_ret2
  exact ⟨rfl, K1⟩
set_option maxHeartbeats 2000000 in
theorem text_ok (so ao : Option Addr) (sn sc an ac : Nat) (S A : List Int) (w : World) (h : Rd w so sn S) (g : Rd w ao an A) (my : mayA S A = 0) (T : Tb w) :
    Calls Tryz.prog 8 #[.agg #[.slice so sn sc, .slice ao an ac]] w fun e w' => e = .returned (.tuple #[.string ⟨(txt S A).toArray⟩, .int .i64 0]) ∧ Below w.heap.size w w' := by
  have k0 := box_below w (.cells #[.slice so sn sc, .slice ao an ac] 36)
  have z0 := allocNew w (.cells #[.slice so sn sc, .slice ao an ac] 36)
  obtain ⟨y0, y1, _, _⟩ := box2 z0
  have cM := mayA_any so ao sn sc an ac S A _ (h.below k0 (Nat.le_refl _)) (g.below k0 (Nat.le_refl _))
  obtain ⟨m1, m2⟩ := mayA_zero my
  have hS : S.length = sn := h.len
  have hA : A.length = an := g.len
  have a4 : an ≤ 4096 := by have := pr_le m1; omega
  rw [my] at cM
  by_cases h2 : sn < 2
  · have HT : Hid (txt S A = inL A) := if_pos (by omega)
    have t1 : (sn : Int) < 2 := by omega
    have cL := fun V (k : Below w.heap.size w V) => inLine64_any ao an ac A V (g.below k (Nat.le_refl _)) a4 (T.below k)
    clear my m1 m2 hS hA
    go_enter Tryz.func8, Tryz.ntmps8
    go_wp2_with (first
      | (go_at_call 18; (with_reducible refine cM.mono ?_); rintro e w1 ⟨rfl, k1⟩; have K1 := k0.trans (k1.mono k0.size); have z1 := (k1.block w.heap.size (by simp)).trans z0; obtain ⟨v0, v1, _, _⟩ := box2 z1)
      | (go_at_call 19; (with_reducible refine (cL w1 K1).mono ?_); rintro e w2 ⟨rfl, k2⟩))
    go_ret2
    exact ⟨ret_pair (by rw [HT.out]; rfl), K1.trans (k2.mono K1.size)⟩
  · have hm0 := (mayF_zero m1).1 (sn - 1) (by omega)
    have HT : Hid (txt S A = txK S A (nth S (sn - 1)).toNat an an) := by show _ = _; unfold txt; rw [if_neg (by omega), hS, hA]
    have t1 : ¬ (sn : Int) < 2 := by omega
    have t1' : decide (sn < 2) = false := by simp; omega
    have cL := fun V (k : Below w.heap.size w V) => inColumns_any so ao sn sc an ac S A V (h.below k (Nat.le_refl _)) (g.below k (Nat.le_refl _)) m1 (by omega) (by omega) (T.below k) (nth S (sn - 1)).toNat (by omega)
    clear my m1 m2 hS hA h2
    generalize txK S A (nth S (sn - 1)).toNat an an = tt at *
    go_enter Tryz.func8, Tryz.ntmps8
    go_wp2_with (first
      | (go_at_call 18; (with_reducible refine cM.mono ?_); rintro e w1 ⟨rfl, k1⟩; have K1 := k0.trans (k1.mono k0.size); have z1 := (k1.block w.heap.size (by simp)).trans z0; obtain ⟨v0, v1, _, _⟩ := box2 z1)
      | (go_at_call 20; (with_reducible refine (cL w1 K1).mono ?_); rintro e w2 ⟨rfl, k2⟩))
    go_ret2
    exact ⟨ret_pair (by rw [HT.out]; rfl), K1.trans (k2.mono K1.size)⟩

/-! ### what the document shows -/

theorem wrt1 : wrt 1 = [49] := by unfold wrt; rw [if_neg (by decide)]; exact Lib.decDigits_one (i := 1) (by decide)
theorem wrt2 : wrt 2 = [50] := by unfold wrt; rw [if_neg (by decide)]; exact Lib.decDigits_one (i := 2) (by decide)
theorem wrtm : wrt (-10) = [95, 49, 48] := by
  unfold wrt; rw [if_pos (by decide)]
  show 95 :: Lib.decDigits 10 = _
  rw [Lib.decDigits_two (by decide) (by decide)]; rfl
theorem wrth : wrt 100 = [49, 48, 48] := by
  unfold wrt; rw [if_neg (by decide)]
  show Lib.decDigits 100 = _
  rw [Lib.decDigits, dif_neg (by decide), Lib.decDigits_two (i := 100 / 10) (by decide) (by decide)]; rfl
theorem ex_fl : fl [2, 2] [1, -10, 100, 2] = [50, 32, 50, 32, 36, 32, 49, 32, 95, 49, 48, 32, 49, 48, 48, 32, 50] := by
  have hb : ¬ bareB [2, 2] [1, -10, 100, 2] := by decide
  unfold fl
  rw [if_neg hb, inL_cons, sp_cons, sp_nil, sp_cons, sp_cons, sp_cons, sp_cons, sp_nil, wrt1, wrt2, wrtm, wrth]; rfl
theorem ex_wid : widK [2, 2] [1, -10, 100, 2] 2 4 = [3, 3] := by
  have c0 : colN [2, 2] 0 = 0 := by decide
  have c1 : colN [2, 2] 1 = 1 := by decide
  have c2 : colN [2, 2] 2 = 0 := by decide
  have c3 : colN [2, 2] 3 = 1 := by decide
  simp only [widK]
  rw [c0, c1, c2, c3, show nth [1, -10, 100, 2] 0 = 1 from rfl, show nth [1, -10, 100, 2] 1 = -10 from rfl, show nth [1, -10, 100, 2] 2 = 100 from rfl, show nth [1, -10, 100, 2] 3 = 2 from rfl, wrt1, wrt2, wrtm, wrth]
  decide
theorem ex_txt : txt [2, 2] [1, -10, 100, 2] = [32, 32, 49, 32, 95, 49, 48, 10, 49, 48, 48, 32, 32, 32, 50] := by
  have c0 : colN [2, 2] 0 = 0 := by decide
  have c1 : colN [2, 2] 1 = 1 := by decide
  have c2 : colN [2, 2] 2 = 0 := by decide
  have c3 : colN [2, 2] 3 = 1 := by decide
  have b1 : btw (digs [2, 2] (1 : Nat)) = [32] := by decide
  have b2 : btw (digs [2, 2] (2 : Nat)) = [10] := by decide
  have b3 : btw (digs [2, 2] (3 : Nat)) = [32] := by decide
  unfold txt
  rw [if_neg (by decide)]
  show txK [2, 2] [1, -10, 100, 2] 2 4 4 = _
  simp only [txK, pceT]
  rw [ex_wid, c0, c1, c2, c3, b1, b2, b3, show nth [1, -10, 100, 2] 0 = 1 from rfl, show nth [1, -10, 100, 2] 1 = -10 from rfl, show nth [1, -10, 100, 2] 2 = 100 from rfl, show nth [1, -10, 100, 2] 3 = 2 from rfl, wrt1, wrt2, wrtm, wrth]
  decide
theorem ex_rd : rdAll [50, 32, 50, 32, 36, 32, 49, 32, 95, 49, 48, 32, 49, 48, 48, 32, 50] = ([2, 2], [1, -10, 100, 2], 0, 0) := by
  rw [← ex_fl]
  exact rd_fl (by intro n hn; simp at hn; omega) (by intro n hn; simp at hn; omega) (by decide)
theorem ex_bad : rdAll [49, 32, 32, 50] = ([], [], 2, 37) := by decide
set_option maxHeartbeats 4000000 in
theorem begun10_any (w : World) (T : Tb w) : Calls Tryz.prog 4 #[] w fun e w' => e = .returned (.bool true) ∧ Below w.heap.size w w' := by
  have k1 := box_below w (.cells #[.int .i64 2, .int .i64 2] 3)
  have F1 := ft_new 3 w [2, 2] (by simp) (by decide)
  have k2 := box_below (w.alloc (.cells #[.int .i64 2, .int .i64 2] 3)) (.cells #[.int .i64 1, .int .i64 (-10), .int .i64 100, .int .i64 2] 2)
  have F2 := ft_new 2 (w.alloc (.cells #[.int .i64 2, .int .i64 2] 3)) [1, -10, 100, 2] (by simp) (by decide)
  have k3 := box_below ((w.alloc (.cells #[.int .i64 2, .int .i64 2] 3)).alloc (.cells #[.int .i64 1, .int .i64 (-10), .int .i64 100, .int .i64 2] 2)) (.cells #[.slice (some ⟨w.heap.size, 0, none⟩) 2 2, .slice (some ⟨w.heap.size + 1, 0, none⟩) 4 4] 36)
  have G1 := (F1.below k2 (Nat.le_refl _)).below k3 (Nat.le_refl _)
  have G2 := F2.below k3 (Nat.le_refl _)
  have Z := allocNew ((w.alloc (.cells #[.int .i64 2, .int .i64 2] 3)).alloc (.cells #[.int .i64 1, .int .i64 (-10), .int .i64 100, .int .i64 2] 2)) (.cells #[.slice (some ⟨w.heap.size, 0, none⟩) 2 2, .slice (some ⟨w.heap.size + 1, 0, none⟩) 4 4] 36)
  have K3 : Below w.heap.size w (((w.alloc (.cells #[.int .i64 2, .int .i64 2] 3)).alloc (.cells #[.int .i64 1, .int .i64 (-10), .int .i64 100, .int .i64 2] 2)).alloc (.cells #[.slice (some ⟨w.heap.size, 0, none⟩) 2 2, .slice (some ⟨w.heap.size + 1, 0, none⟩) 4 4] 36)) := (k1.trans (k2.mono k1.size)).trans (k3.mono (by simp; omega))
  rw [World.size_alloc] at G2
  simp only [World.size_alloc] at Z
  have g1 : Rd (((w.alloc (.cells #[.int .i64 2, .int .i64 2] 3)).alloc (.cells #[.int .i64 1, .int .i64 (-10), .int .i64 100, .int .i64 2] 2)).alloc (.cells #[.slice (some ⟨w.heap.size, 0, none⟩) 2 2, .slice (some ⟨w.heap.size + 1, 0, none⟩) 4 4] 36)) (some ⟨w.heap.size, 0, none⟩) 2 [2, 2] := G1.rd
  have g2 : Rd (((w.alloc (.cells #[.int .i64 2, .int .i64 2] 3)).alloc (.cells #[.int .i64 1, .int .i64 (-10), .int .i64 100, .int .i64 2] 2)).alloc (.cells #[.slice (some ⟨w.heap.size, 0, none⟩) 2 2, .slice (some ⟨w.heap.size + 1, 0, none⟩) 4 4] 36)) (some ⟨w.heap.size + 1, 0, none⟩) 4 [1, -10, 100, 2] := G2.rd
  have TU := T.below K3
  have ZL : w.heap.size + 1 + 1 < (((w.alloc (.cells #[.int .i64 2, .int .i64 2] 3)).alloc (.cells #[.int .i64 1, .int .i64 (-10), .int .i64 100, .int .i64 2] 2)).alloc (.cells #[.slice (some ⟨w.heap.size, 0, none⟩) 2 2, .slice (some ⟨w.heap.size + 1, 0, none⟩) 4 4] 36)).heap.size := (Array.getElem?_eq_some_iff.1 Z).1
  clear F1 F2 k1 k2 k3 G1 G2
  go_enter Tryz.func4, Tryz.ntmps4
  go_upto_region 2 with fail
  generalize (((w.alloc (.cells #[.int .i64 2, .int .i64 2] 3)).alloc (.cells #[.int .i64 1, .int .i64 (-10), .int .i64 100, .int .i64 2] 2)).alloc (.cells #[.slice (some ⟨w.heap.size, 0, none⟩) 2 2, .slice (some ⟨w.heap.size + 1, 0, none⟩) 4 4] 36)) = U at *
  obtain ⟨y0, y1, _, _⟩ := box2 Z
  have cT := text_ok _ _ 2 2 4 4 [2, 2] [1, -10, 100, 2] U g1 g2 (by decide) TU
  rw [ex_txt] at cT
  have cF := fun V (k : Below U.heap.size U V) => flat_ok _ _ 2 2 4 4 [2, 2] [1, -10, 100, 2] V (g1.below k (Nat.le_refl _)) (g2.below k (Nat.le_refl _)) (by decide) (TU.below k)
  rw [ex_fl] at cF
  have cR := fun V (k : Below U.heap.size U V) => read_any [50, 32, 50, 32, 36, 32, 49, 32, 95, 49, 48, 32, 49, 48, 48, 32, 50] V (by decide) (TU.below k)
  rw [ex_rd] at cR
  have cQ := fun V (k : Below U.heap.size U V) => read_any [49, 32, 32, 50] V (by decide) (TU.below k)
  rw [ex_bad] at cQ
  go_wp2_with (first
    | (go_at_call 8; (with_reducible refine cT.mono ?_); rintro e w1 ⟨rfl, j1⟩; have J1 := j1; have z1 := (j1.block _ ZL).trans Z; obtain ⟨v0, v1, _, _⟩ := box2 z1)
    | (go_at_call 9; (with_reducible refine (cF w1 J1).mono ?_); rintro e w2 ⟨rfl, j2⟩; have J2 := J1.trans (j2.mono J1.size); have z2 := (J2.block _ ZL).trans Z)
    | (go_at_call 10; (with_reducible refine (cR w2 J2).mono ?_); rintro e w3 ⟨o1, n1, c1, o2, n2, c2, rfl, f1, f2, j3⟩; have J3 := J2.trans (j3.mono J2.size); have kb := box_below w3 (.cells #[.slice o1 n1 c1, .slice o2 n2 c2] 36); have J4 := J3.trans (kb.mono J3.size); have x4 := allocNew w3 (.cells #[.slice o1 n1 c1, .slice o2 n2 c2] 36); have f1' := f1.below kb (Nat.le_refl _); have f2' := f2.below kb (Nat.le_refl _))
    | (go_at_call 10; (with_reducible refine (cQ _ J4).mono ?_); rintro e w5 ⟨p1, q1, d1, p2, q2, d2, rfl, h1, h2, j5⟩; have J5 := J4.trans (j5.mono J4.size); have kc := box_below w5 (.cells #[.slice p1 q1 d1, .slice p2 q2 d2] 36); have J6 := J5.trans (kc.mono J5.size); have x5 := (kc.block w3.heap.size (Nat.lt_of_lt_of_le (Array.getElem?_eq_some_iff.1 x4).1 j5.size)).trans ((j5.block w3.heap.size (Array.getElem?_eq_some_iff.1 x4).1).trans x4); obtain ⟨a0, a1, _, _⟩ := box2 x5; obtain ⟨b0, b1, _, _⟩ := box2 ((J6.block _ ZL).trans Z); have cE := eq4_any o1 o2 _ _ n1 c1 n2 c2 2 2 4 4 [2, 2] [1, -10, 100, 2] [2, 2] [1, -10, 100, 2] _ ((f1'.below j5 (Nat.le_refl _)).below kc (Nat.le_refl _)).rd ((f2'.below j5 (Nat.le_refl _)).below kc (Nat.le_refl _)).rd (g1.below J6 (Nat.le_refl _)) (g2.below J6 (Nat.le_refl _)); rw [show eqA [2, 2] [1, -10, 100, 2] [2, 2] [1, -10, 100, 2] = true from by decide] at cE)
    | (go_at_call 11; (with_reducible refine cE.mono ?_); rintro e w7 ⟨rfl, j7⟩; have J7 := J6.trans (j7.mono J6.size)))
  go_ret
  exact ⟨rfl, K3.trans (J7.mono K3.size)⟩
end Go.Proofs.YtppcfpiihkaopaaGreatDoor
