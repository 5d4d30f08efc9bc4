
/- The document's Flat. -/

import Derived.Test.YtppcfpiihkaopaaGreatDoorWB

import Derived.Test.YtppcfpiihkaopaaGreatDoorVU

import Derived.Test.YtppcfpiihkaopaaGreatDoorRefs

namespace Go.Proofs.YtppcfpiihkaopaaGreatDoor

open Go.RowKit

set_option linter.unusedVariables false

set_option maxHeartbeats 1000000 in
theorem may4_any (so ao : Option Addr) (sn sc an ac : Nat) (S A : List Int) (w : World) (h : Rd w so sn S) (g : Rd w ao an A) :
    Calls Tryz.prog 29 #[.agg #[.slice so sn sc, .slice ao an ac]] w fun e w' => e = .returned (.bool (mayA S A == 0)) ∧ Below w.heap.size w w' := by
  have groom := g.room
  have GL : Hid (A.length = an) := g.len
  have hb := box_below w (.cells #[.slice so sn sc, .slice ao an ac] 36)
  have hz := refSize_any so sn sc S _ (h.below hb (Nat.le_refl _))
  obtain ⟨y0, y1, _, _⟩ := box2 (allocNew w (.cells #[.slice so sn sc, .slice ao an ac] 36))
  have bd := sizeF_bd S
  by_cases h0 : mayF S = 0
  · rw [h0] at hz
    have H0 : Hid (mayF S = 0) := h0
    have HP : Hid (sizeF S = pr S) := sizeF_ok h0
    clear h0
    generalize sizeF S = z at *
    by_cases hn : (an : Int) = z
    · have hn' : (z == (an : Int)) = true := by simpa using hn.symm
      have hn2 : z = (an : Int) := hn.symm
      have HN : Hid ((an : Int) = z) := hn
      clear hn hn2
      go_enter Tryz.func29, Tryz.ntmps29
      go_wp2_with (go_at_call 35; (with_reducible refine hz.mono ?_); rintro e w' ⟨rfl, rfl⟩)
      go_ret
      exact ⟨by rw [mayA_ok H0.out (by rw [GL.out, HN.out, HP.out])]; rfl, hb⟩
    · have hn' : (z == (an : Int)) = false := by simpa using fun e => hn e.symm
      have HN : Hid ((an : Int) ≠ z) := hn
      clear hn
      go_enter Tryz.func29, Tryz.ntmps29
      go_wp2_with (go_at_call 35; (with_reducible refine hz.mono ?_); rintro e w' ⟨rfl, rfl⟩)
      go_ret
      exact ⟨by rw [mayA_no H0.out (by rw [GL.out, ← HP.out]; exact HN.out)]; rfl, hb⟩
  · have h0' : (mayF S == 0) = false := by simpa using h0
    have H0 : Hid (mayF S ≠ 0) := h0
    clear h0
    go_enter Tryz.func29, Tryz.ntmps29
    go_wp2_with (go_at_call 35; (with_reducible refine hz.mono ?_); rintro e w' ⟨rfl, rfl⟩)
    go_ret
    exact ⟨by rw [mayA_sh H0.out, h0']; rfl, hb⟩
set_option linter.unusedSimpArgs false in
set_option maxHeartbeats 4000000 in
set_option maxRecDepth 100000 in
theorem rflat_any (so ao : Option Addr) (sn sc an ac : Nat) (S A : List Int) (w : World) (h : Rd w so sn S) (g : Rd w ao an A) (T : Tb w) :
    Calls Tryz.prog 16 #[.agg #[.slice so sn sc, .slice ao an ac]] w fun e w' => e = .returned (.tuple #[.string ⟨(flT S A).toArray⟩, .int .i64 (flE S A)]) ∧ Below w.heap.size w w' := by
  have k0 := box_below w (.cells #[.slice so sn sc, .slice ao an ac] 36)
  have z0 := allocNew w (.cells #[.slice so sn sc, .slice ao an ac] 36)
  obtain ⟨y0, y1, _, _⟩ := box2 z0
  have cM := may4_any so ao sn sc an ac S A _ (h.below k0 (Nat.le_refl _)) (g.below k0 (Nat.le_refl _))
  have M1 : ∀ V, Below w.heap.size w V → Below V.heap.size V V := fun V _ => Below.refl _ _
  by_cases hm : mayA S A = 0
  · rw [show flT S A = fl S A from if_pos hm, show flE S A = 0 from if_pos hm]
    rw [show (mayA S A == 0) = true from by rw [hm]; rfl] at cM
    obtain ⟨m1, m2⟩ := mayA_zero hm
    have s8 : sn ≤ 8 := by have := (mayF_zero m1).2.1; rw [h.len] at this; omega
    have a4 : an ≤ 4096 := by have := pr_le m1; rw [g.len] at m2; omega
    have hS := inL_len S (in64_of h)
    have hA := inL_len A (in64_of g)
    have HS : Hid (S.length = sn) := h.len
    have HA : Hid (A.length = an) := g.len
    rw [h.len] at hS
    rw [g.len] at hA
    have BX : ∀ V, Below w.heap.size w V → Rd V so sn S ∧ Rd V ao an A ∧ Tb V := fun V k => ⟨h.below k (Nat.le_refl _), g.below k (Nat.le_refl _), T.below k⟩
    clear hm m1 m2 M1
    by_cases hb : bareB S A
    · have HF : Hid (fl S A = inL A) := if_pos hb
      have HB : Hid (sn = 0 ∨ (sn = 1 ∧ 1 < an)) := by have := hb; unfold bareB at this; rw [HS.out, HA.out] at this; exact this
      clear hb
      by_cases s0 : sn = 0
      · have s0' : ((sn : Int) == 0) = true := by simp [s0]
        have s0n : (sn == 0) = true := by simp [s0]
        have z00 : Hid (sn = 0) := s0
        clear s0
        go_enter Tryz.func16, Tryz.ntmps16
        go_wp2_with (first
          | (go_at_call 29; (with_reducible refine cM.mono ?_); rintro e w1 ⟨rfl, k1⟩; have K1 := k0.trans (k1.mono k0.size); have z1 := (k1.block w.heap.size (by simp)).trans z0; obtain ⟨v0, v1, _, _⟩ := box2 z1; have cL := numbers10_any ao an ac A w1 (BX _ K1).2.1 a4 (BX _ K1).2.2)
          | (go_at_call 30; (with_reducible refine cL.mono ?_); rintro e w3 ⟨rfl, k3⟩; have K3 := K1.trans (k3.mono K1.size)))
        go_ret2
        exact ⟨ret_pair (by rw [HF.out]; rfl), K3⟩
      · have s1 : sn = 1 ∧ 1 < an := HB.out.resolve_left s0
        have s0' : ((sn : Int) == 0) = false := by simp [s0]
        have s0n : (sn == 0) = false := by simp [s0]
        have s1' : ((sn : Int) == 1) = true := by simp [s1.1]
        have s1n : (sn == 1) = true := by simp [s1.1]
        have a1 : decide ((1 : Int) < (an : Int)) = true := by simp; omega
        have a1n : 1 < an := s1.2
        clear s0 s1
        go_enter Tryz.func16, Tryz.ntmps16
        go_wp2_with (first
          | (go_at_call 29; (with_reducible refine cM.mono ?_); rintro e w1 ⟨rfl, k1⟩; have K1 := k0.trans (k1.mono k0.size); have z1 := (k1.block w.heap.size (by simp)).trans z0; obtain ⟨v0, v1, _, _⟩ := box2 z1; have cL := numbers10_any ao an ac A w1 (BX _ K1).2.1 a4 (BX _ K1).2.2)
          | (go_at_call 30; (with_reducible refine cL.mono ?_); rintro e w3 ⟨rfl, k3⟩; have K3 := K1.trans (k3.mono K1.size)))
        go_ret2
        exact ⟨ret_pair (by rw [HF.out]; rfl), K3⟩
    · have HF : Hid (fl S A = inL S ++ 32 :: 36 :: sp A) := if_neg hb
      have HB : Hid (¬ (sn = 0 ∨ (sn = 1 ∧ 1 < an))) := by have := hb; unfold bareB at this; rw [HS.out, HA.out] at this; exact this
      have s0 : ¬ sn = 0 := fun e => HB.out (.inl e)
      have s0' : ((sn : Int) == 0) = false := by simp [s0]
      have s0n : (sn == 0) = false := by simp [s0]
      clear hb s0
      by_cases s1 : sn = 1
      · have s1' : ((sn : Int) == 1) = true := by simp [s1]
        have s1n : (sn == 1) = true := by simp [s1]
        have a1 : decide ((1 : Int) < (an : Int)) = false := by have := HB.out; simp; omega
        have a1n : ¬ 1 < an := by have := HB.out; omega
        clear s1
        go_enter Tryz.func16, Tryz.ntmps16
        go_wp2_with (go_at_call 29; (with_reducible refine cM.mono ?_); rintro e w1 ⟨rfl, k1⟩; have K1 := k0.trans (k1.mono k0.size); have z1 := (k1.block w.heap.size (by simp)).trans z0; obtain ⟨v0, v1, _, _⟩ := box2 z1)
        go_loopw [4, 5] (fun l i V => ∃ (k : Nat) (lo : Option Addr) (lc : Nat), k ≤ sn ∧ i = .int .i64 (k : Nat) ∧ l = .slice lo k lc ∧ Ft 2 V w.heap.size lo k lc (S.take k) ∧ Below w.heap.size w V ∧ V.heap[w.heap.size]? = some (.cells #[.slice so sn sc, .slice ao an ac] 36 (0, 0))) (fun _ i _ => sn - (intOf i).toNat)
        case atStart => exact ⟨0, none, 0, Nat.zero_le _, rfl, rfl, Ft.nil _ _ _, K1, z1⟩
        case round =>
          obtain ⟨k, lo, lc, hk, rfl, rfl, FL, KV, ZV⟩ := hrel
          clear z1 v0 v1 K1 k1 k0 cM
          obtain ⟨c0, c1, _, _⟩ := box2 ZV
          by_cases hlt : k < sn
          · obtain ⟨rS, rA, tV⟩ := BX wr KV
            have hz := rS.num k hlt
            obtain ⟨b, off, rfl, hbb, hc⟩ := rS.cells (by omega)
            have cS := hc k hlt
            have hw : IntKind.i64.wrap (nth S k) = nth S k := by rw [IntKind.wrap_i64]; omega
            have ka := box_below wr (.cells #[.int .i64 (nth S k)] 2)
            have FV := ft_new 2 wr [nth S k] (by simp) (fun q hq => by
              have : q = 0 := by simpa using hq
              subst this; exact hz)
            have KA := KV.trans (ka.mono KV.size)
            have FA := FL.below ka (Nat.le_refl _)
            have HT : Hid (S.take (k + 1) = S.take k ++ [nth S k]) := by
              show _ = _
              rw [List.take_add_one, List.getElem?_eq_getElem (by rw [HS.out]; exact hlt)]
              unfold nth
              rw [List.getD_eq_getElem?_getD, List.getElem?_eq_getElem (by rw [HS.out]; exact hlt)]; rfl
            have ZA := (ka.block w.heap.size (Array.getElem?_eq_some_iff.1 ZV).1).trans ZV
            clear hc rS rA tV BX
            go_wp2_with (at_builtin; refine wpList_joinG2 tyL rfl _ _ rfl w.heap.size _ _ _ _ _ _ _ [nth S k] rfl rfl FA FV.rd FV.sl (by omega) KA.size ?_; intro co cc w2 F2 g2)
            go_roundw
            case rel => exact ⟨k + 1, co, cc, by omega, by go_num, rfl, (by rw [HT.out]; exact F2), KA.trans (FA.growsBelow g2 KA.size), FA.other g2 ZA (by decide)⟩
            case measure => simp [intOf]; omega
          · obtain rfl : k = sn := by omega
            rw [List.take_of_length_le (by have := HS.out; omega)] at FL
            have cN := numbers10_any lo k lc S wr FL.rd (by omega) (BX _ KV).2.2
            by_cases ha : an = 0
            · have t1 : ¬ (0 : Int) < (an : Int) := by omega
              have t1' : ¬ 0 < an := by omega
              have hA0 : A = [] := List.length_eq_zero_iff.1 (by rw [HA.out]; exact ha)
              have HF2 : Hid (fl S A = inL S ++ [32, 36]) := by show _ = _; rw [HF.out, hA0]; rfl
              have tl : ¬ 9223372036854775807 < (inL S).length + 2 := by omega
              subst ha
              clear HF hA0
              go_wp2_with (go_at_call 30; (with_reducible refine cN.mono ?_); rintro e w3 ⟨rfl, k3⟩; have K3 := KV.trans (k3.mono KV.size); have z3 := (k3.block w.heap.size (Array.getElem?_eq_some_iff.1 ZV).1).trans ZV; obtain ⟨q0, q1, _, _⟩ := box2 z3)
              go_ret2
              exact ⟨ret_pair (by rw [HF2.out, ← bs_app]; rfl), K3⟩
            · have t1 : (0 : Int) < (an : Int) := by omega
              have t1' : 0 < an := by omega
              have HF2 : Hid (fl S A = ((inL S ++ [32, 36]) ++ [32]) ++ inL A) := by
                show _ = _
                rw [HF.out, ← blank_inL (a := A) (fun e => ha (by rw [← HA.out, e]; rfl))]
                simp
              have tl : ¬ 9223372036854775807 < (inL S).length + 2 := by omega
              have tl2 : ¬ 9223372036854775807 < (inL S).length + 2 + 1 := by omega
              have tl3 : ¬ 9223372036854775807 < (inL S).length + 2 + 1 + (inL A).length := by omega
              clear HF ha
              go_wp2_with (first
                | (go_at_call 30; (with_reducible refine cN.mono ?_); rintro e w3 ⟨rfl, k3⟩; have K3 := KV.trans (k3.mono KV.size); have z3 := (k3.block w.heap.size (Array.getElem?_eq_some_iff.1 ZV).1).trans ZV; obtain ⟨q0, q1, _, _⟩ := box2 z3; have cL := numbers10_any ao an ac A w3 (BX _ K3).2.1 a4 (BX _ K3).2.2)
                | (go_at_call 30; (with_reducible refine cL.mono ?_); rintro e w4 ⟨rfl, k4⟩; have K4 := K3.trans (k4.mono K3.size)))
              go_ret2
              exact ⟨ret_pair (by rw [HF2.out, ← bs_app ((inL S ++ [32, 36]) ++ [32]), ← bs_app (inL S ++ [32, 36]), ← bs_app]; rfl), K4⟩
      · have s1' : ((sn : Int) == 1) = false := by simp; omega
        have s1n : (sn == 1) = false := by simp [s1]
        clear s1
        go_enter Tryz.func16, Tryz.ntmps16
        go_wp2_with (go_at_call 29; (with_reducible refine cM.mono ?_); rintro e w1 ⟨rfl, k1⟩; have K1 := k0.trans (k1.mono k0.size); have z1 := (k1.block w.heap.size (by simp)).trans z0; obtain ⟨v0, v1, _, _⟩ := box2 z1)
        go_loopw [4, 5] (fun l i V => ∃ (k : Nat) (lo : Option Addr) (lc : Nat), k ≤ sn ∧ i = .int .i64 (k : Nat) ∧ l = .slice lo k lc ∧ Ft 2 V w.heap.size lo k lc (S.take k) ∧ Below w.heap.size w V ∧ V.heap[w.heap.size]? = some (.cells #[.slice so sn sc, .slice ao an ac] 36 (0, 0))) (fun _ i _ => sn - (intOf i).toNat)
        case atStart => exact ⟨0, none, 0, Nat.zero_le _, rfl, rfl, Ft.nil _ _ _, K1, z1⟩
        case round =>
          obtain ⟨k, lo, lc, hk, rfl, rfl, FL, KV, ZV⟩ := hrel
          clear z1 v0 v1 K1 k1 k0 cM
          obtain ⟨c0, c1, _, _⟩ := box2 ZV
          by_cases hlt : k < sn
          · obtain ⟨rS, rA, tV⟩ := BX wr KV
            have hz := rS.num k hlt
            obtain ⟨b, off, rfl, hbb, hc⟩ := rS.cells (by omega)
            have cS := hc k hlt
            have hw : IntKind.i64.wrap (nth S k) = nth S k := by rw [IntKind.wrap_i64]; omega
            have ka := box_below wr (.cells #[.int .i64 (nth S k)] 2)
            have FV := ft_new 2 wr [nth S k] (by simp) (fun q hq => by
              have : q = 0 := by simpa using hq
              subst this; exact hz)
            have KA := KV.trans (ka.mono KV.size)
            have FA := FL.below ka (Nat.le_refl _)
            have HT : Hid (S.take (k + 1) = S.take k ++ [nth S k]) := by
              show _ = _
              rw [List.take_add_one, List.getElem?_eq_getElem (by rw [HS.out]; exact hlt)]
              unfold nth
              rw [List.getD_eq_getElem?_getD, List.getElem?_eq_getElem (by rw [HS.out]; exact hlt)]; rfl
            have ZA := (ka.block w.heap.size (Array.getElem?_eq_some_iff.1 ZV).1).trans ZV
            clear hc rS rA tV BX
            go_wp2_with (at_builtin; refine wpList_joinG2 tyL rfl _ _ rfl w.heap.size _ _ _ _ _ _ _ [nth S k] rfl rfl FA FV.rd FV.sl (by omega) KA.size ?_; intro co cc w2 F2 g2)
            go_roundw
            case rel => exact ⟨k + 1, co, cc, by omega, by go_num, rfl, (by rw [HT.out]; exact F2), KA.trans (FA.growsBelow g2 KA.size), FA.other g2 ZA (by decide)⟩
            case measure => simp [intOf]; omega
          · obtain rfl : k = sn := by omega
            rw [List.take_of_length_le (by have := HS.out; omega)] at FL
            have cN := numbers10_any lo k lc S wr FL.rd (by omega) (BX _ KV).2.2
            by_cases ha : an = 0
            · have t1 : ¬ (0 : Int) < (an : Int) := by omega
              have t1' : ¬ 0 < an := by omega
              have hA0 : A = [] := List.length_eq_zero_iff.1 (by rw [HA.out]; exact ha)
              have HF2 : Hid (fl S A = inL S ++ [32, 36]) := by show _ = _; rw [HF.out, hA0]; rfl
              have tl : ¬ 9223372036854775807 < (inL S).length + 2 := by omega
              subst ha
              clear HF hA0
              go_wp2_with (go_at_call 30; (with_reducible refine cN.mono ?_); rintro e w3 ⟨rfl, k3⟩; have K3 := KV.trans (k3.mono KV.size); have z3 := (k3.block w.heap.size (Array.getElem?_eq_some_iff.1 ZV).1).trans ZV; obtain ⟨q0, q1, _, _⟩ := box2 z3)
              go_ret2
              exact ⟨ret_pair (by rw [HF2.out, ← bs_app]; rfl), K3⟩
            · have t1 : (0 : Int) < (an : Int) := by omega
              have t1' : 0 < an := by omega
              have HF2 : Hid (fl S A = ((inL S ++ [32, 36]) ++ [32]) ++ inL A) := by
                show _ = _
                rw [HF.out, ← blank_inL (a := A) (fun e => ha (by rw [← HA.out, e]; rfl))]
                simp
              have tl : ¬ 9223372036854775807 < (inL S).length + 2 := by omega
              have tl2 : ¬ 9223372036854775807 < (inL S).length + 2 + 1 := by omega
              have tl3 : ¬ 9223372036854775807 < (inL S).length + 2 + 1 + (inL A).length := by omega
              clear HF ha
              go_wp2_with (first
                | (go_at_call 30; (with_reducible refine cN.mono ?_); rintro e w3 ⟨rfl, k3⟩; have K3 := KV.trans (k3.mono KV.size); have z3 := (k3.block w.heap.size (Array.getElem?_eq_some_iff.1 ZV).1).trans ZV; obtain ⟨q0, q1, _, _⟩ := box2 z3; have cL := numbers10_any ao an ac A w3 (BX _ K3).2.1 a4 (BX _ K3).2.2)
                | (go_at_call 30; (with_reducible refine cL.mono ?_); rintro e w4 ⟨rfl, k4⟩; have K4 := K3.trans (k4.mono K3.size)))
              go_ret2
              exact ⟨ret_pair (by rw [HF2.out, ← bs_app ((inL S ++ [32, 36]) ++ [32]), ← bs_app (inL S ++ [32, 36]), ← bs_app]; rfl), K4⟩
  · rw [show flT S A = [] from if_neg hm, show flE S A = 1 from if_neg hm]
    rw [show (mayA S A == 0) = false from by simpa using hm] at cM
    clear hm
    go_enter Tryz.func16, Tryz.ntmps16
    go_wp2_with (go_at_call 29; (with_reducible refine cM.mono ?_); rintro e w1 ⟨rfl, k1⟩; have K1 := k0.trans (k1.mono k0.size))
    go_ret2
    exact ⟨rfl, K1⟩
end Go.Proofs.YtppcfpiihkaopaaGreatDoor
