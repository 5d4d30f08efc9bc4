
/- The document's right: a node as it should be. -/

import Derived.Test.YtiahilelcppfgaaGreatSR

import Derived.Test.YtiahilelcppfgaaGreatSN

namespace Go.Proofs.YtiahilelcppfgaaGreat

open Go.RowKit

set_option linter.unusedVariables false

/-- A node's own part of what fits. -/
def rtB (k n : Int) (t : ByteArray) (b : Bool) (s a : List Int) (kn : Nat) (g : Nat → Int × ByteArray) : Bool := kidB k kn g && ((txB k t && (!b || !spk k t)) && (arrB k s a && numB k n))
set_option linter.unusedSimpArgs false in
set_option maxRecDepth 100000 in
set_option maxHeartbeats 4000000 in
theorem rright_flat (k n dp : Int) (t : ByteArray) (b : Bool) (so ao ko : Option Addr) (sn sc an ac kn kc : Nat) (s a : List Int) (g : Nat → Int × ByteArray) (w : World) (ht : t.size ≤ 140737488355328) (hs : Rd w so sn s) (ha : Rd w ao an a) (hk : Kf w ko kn g) :
    Calls Tryz.prog 50 #[.agg #[.int .i64 k, .string t, .int .i64 n, .slice so sn sc, .slice ao an ac, .slice ko kn kc, .int .i64 dp, .bool b]] w fun e w' => e = .returned (.bool (rtB k n t b s a kn g)) ∧ Below w.heap.size w w' := by
  have HR : Hid (rtB k n t b s a kn g = (kidB k kn g && ((txB k t && (!b || !spk k t)) && (arrB k s a && numB k n)))) := rfl
  generalize rtB k n t b s a kn g = R at *
  have k0 := box_below w (.cells #[.int .i64 k, .string t, .int .i64 n, .slice so sn sc, .slice ao an ac, .slice ko kn kc, .int .i64 dp, .bool b] 77)
  have box := allocNew w (.cells #[.int .i64 k, .string t, .int .i64 n, .slice so sn sc, .slice ao an ac, .slice ko kn kc, .int .i64 dp, .bool b] 77)
  obtain ⟨b0, b1, b2, b3, b4, b5', b6', b7'⟩ := box8 box
  have hs0 := hs.below k0 (Nat.le_refl _)
  have ha0 := ha.below k0 (Nat.le_refl _)
  have hk0 := hk.below k0 (Nat.le_refl _)
  clear hs ha hk
  rcases kinds_all k with hy | hn
  · have hkd := fun W => rkids_yes k W hy
    obtain ⟨hne, hal⟩ := rall_kind k hy ko kn kc g _ hk0
    have hq : ((ltK k).toList == [63]) = false := by simp [hne]
    have htx := fun W => rtext_any k n dp t b so ao ko sn sc an ac kn kc W ht
    have hnm := fun V (hV : Below (w.alloc (.cells #[.int .i64 k, .string t, .int .i64 n, .slice so sn sc, .slice ao an ac, .slice ko kn kc, .int .i64 dp, .bool b] 77)).heap.size (w.alloc (.cells #[.int .i64 k, .string t, .int .i64 n, .slice so sn sc, .slice ao an ac, .slice ko kn kc, .int .i64 dp, .bool b] 77)) V) => rnum_any k n t so ao ko sn sc an ac kn kc s a V (hs0.below hV (Nat.le_refl _)) (ha0.below hV (Nat.le_refl _))
    have HNB : Hid (numB k n = if k = 23 then decide (n = 1) || decide (n = 2) else decide (n = 0)) := rfl
    generalize kidB k kn g = KB at *
    generalize (txB k t && (!b || !spk k t)) = TX at *
    generalize arrB k s a = AR at *
    generalize numB k n = NB at *
    generalize ltK k = lt at *
    clear hy hne hs0 ha0 hk0 ht
    cases KB
    · have HE : Hid (R = false) := HR.out
      clear HR htx hnm HNB
      go_enter Tryz.func50, Tryz.ntmps50
      go_wp2_with (first | (go_at_call 71; (with_reducible refine (hkd _).mono ?_); rintro e w4 ⟨rfl, hw⟩; rw [hw]; clear hw w4) | (go_at_call 72; (with_reducible refine hal.mono ?_); rintro e w5 ⟨rfl, b5⟩; obtain ⟨q0, q1, q2, q3, q4, q5, q6, q7⟩ := box8 ((b5.block w.heap.size (by simp)).trans box)))
      go_ret
      exact ⟨ret_bool (HE.out.symm), k0.trans (b5.mono k0.size)⟩
    cases TX
    · have HE : Hid (R = false) := HR.out
      clear HR hnm HNB
      go_enter Tryz.func50, Tryz.ntmps50
      go_wp2_with (first | (go_at_call 71; (with_reducible refine (hkd _).mono ?_); rintro e w4 ⟨rfl, hw⟩; rw [hw]; clear hw w4) | (go_at_call 72; (with_reducible refine hal.mono ?_); rintro e w5 ⟨rfl, b5⟩; obtain ⟨q0, q1, q2, q3, q4, q5, q6, q7⟩ := box8 ((b5.block w.heap.size (by simp)).trans box)) | (go_at_call 73; (with_reducible refine (htx _).mono ?_); rintro e w6 ⟨rfl, b6⟩; obtain ⟨p0, p1, p2, p3, p4, p5, p6, p7⟩ := box8 ((b6.block w.heap.size (Nat.lt_of_lt_of_le (by simp) b5.size)).trans ((b5.block w.heap.size (by simp)).trans box))))
      go_ret
      exact ⟨ret_bool (HE.out.symm), k0.trans ((b5.trans (b6.mono b5.size)).mono k0.size)⟩
    cases AR
    · have HE : Hid (R = false) := HR.out
      clear HR HNB
      go_enter Tryz.func50, Tryz.ntmps50
      go_wp2_with (first | (go_at_call 71; (with_reducible refine (hkd _).mono ?_); rintro e w4 ⟨rfl, hw⟩; rw [hw]; clear hw w4) | (go_at_call 72; (with_reducible refine hal.mono ?_); rintro e w5 ⟨rfl, b5⟩; obtain ⟨q0, q1, q2, q3, q4, q5, q6, q7⟩ := box8 ((b5.block w.heap.size (by simp)).trans box)) | (go_at_call 73; (with_reducible refine (htx _).mono ?_); rintro e w6 ⟨rfl, b6⟩; obtain ⟨p0, p1, p2, p3, p4, p5, p6, p7⟩ := box8 ((b6.block w.heap.size (Nat.lt_of_lt_of_le (by simp) b5.size)).trans ((b5.block w.heap.size (by simp)).trans box))) | (go_at_call 74; (with_reducible refine (hnm _ (b5.trans (b6.mono b5.size))).mono ?_); rintro e w7 ⟨rfl, b7⟩; obtain ⟨o0, o1, o2, o3, o4, o5, o6, o7⟩ := box8 ((b7.block w.heap.size (Nat.lt_of_lt_of_le (by simp) (Nat.le_trans b5.size b6.size))).trans ((b6.block w.heap.size (Nat.lt_of_lt_of_le (by simp) b5.size)).trans ((b5.block w.heap.size (by simp)).trans box)))))
      go_ret
      exact ⟨ret_bool (HE.out.symm), k0.trans ((b5.trans ((b6.trans (b7.mono b6.size)).mono b5.size)).mono k0.size)⟩
    have HE : Hid (R = NB) := HR.out
    clear HR
    by_cases h23 : k = 23
    · have HN : Hid (NB = (decide (n = 1) || decide (n = 2))) := by show _ = _; rw [HNB.out, if_pos h23]
      have e23 : (k == 23) = true := by simp [h23]
      clear HNB h23
      by_cases h1 : n = 1
      · have e1 : (n == 1) = true := by simp [h1]
        have HF : Hid (R = true) := by show _ = _; rw [HE.out, HN.out]; simp [h1]
        clear h1 HN HE
        go_enter Tryz.func50, Tryz.ntmps50
        go_wp2_with (first | (go_at_call 71; (with_reducible refine (hkd _).mono ?_); rintro e w4 ⟨rfl, hw⟩; rw [hw]; clear hw w4) | (go_at_call 72; (with_reducible refine hal.mono ?_); rintro e w5 ⟨rfl, b5⟩; obtain ⟨q0, q1, q2, q3, q4, q5, q6, q7⟩ := box8 ((b5.block w.heap.size (by simp)).trans box)) | (go_at_call 73; (with_reducible refine (htx _).mono ?_); rintro e w6 ⟨rfl, b6⟩; obtain ⟨p0, p1, p2, p3, p4, p5, p6, p7⟩ := box8 ((b6.block w.heap.size (Nat.lt_of_lt_of_le (by simp) b5.size)).trans ((b5.block w.heap.size (by simp)).trans box))) | (go_at_call 74; (with_reducible refine (hnm _ (b5.trans (b6.mono b5.size))).mono ?_); rintro e w7 ⟨rfl, b7⟩; obtain ⟨o0, o1, o2, o3, o4, o5, o6, o7⟩ := box8 ((b7.block w.heap.size (Nat.lt_of_lt_of_le (by simp) (Nat.le_trans b5.size b6.size))).trans ((b6.block w.heap.size (Nat.lt_of_lt_of_le (by simp) b5.size)).trans ((b5.block w.heap.size (by simp)).trans box)))))
        go_ret
        exact ⟨ret_bool (HF.out.symm), k0.trans ((b5.trans ((b6.trans (b7.mono b6.size)).mono b5.size)).mono k0.size)⟩
      · have e1 : (n == 1) = false := by simp [h1]
        have HF : Hid (R = (n == 2)) := by show _ = _; rw [HE.out, HN.out]; by_cases h : n = 2 <;> simp [h1, h]
        clear h1 HN HE
        go_enter Tryz.func50, Tryz.ntmps50
        go_wp2_with (first | (go_at_call 71; (with_reducible refine (hkd _).mono ?_); rintro e w4 ⟨rfl, hw⟩; rw [hw]; clear hw w4) | (go_at_call 72; (with_reducible refine hal.mono ?_); rintro e w5 ⟨rfl, b5⟩; obtain ⟨q0, q1, q2, q3, q4, q5, q6, q7⟩ := box8 ((b5.block w.heap.size (by simp)).trans box)) | (go_at_call 73; (with_reducible refine (htx _).mono ?_); rintro e w6 ⟨rfl, b6⟩; obtain ⟨p0, p1, p2, p3, p4, p5, p6, p7⟩ := box8 ((b6.block w.heap.size (Nat.lt_of_lt_of_le (by simp) b5.size)).trans ((b5.block w.heap.size (by simp)).trans box))) | (go_at_call 74; (with_reducible refine (hnm _ (b5.trans (b6.mono b5.size))).mono ?_); rintro e w7 ⟨rfl, b7⟩; obtain ⟨o0, o1, o2, o3, o4, o5, o6, o7⟩ := box8 ((b7.block w.heap.size (Nat.lt_of_lt_of_le (by simp) (Nat.le_trans b5.size b6.size))).trans ((b6.block w.heap.size (Nat.lt_of_lt_of_le (by simp) b5.size)).trans ((b5.block w.heap.size (by simp)).trans box)))))
        go_ret
        exact ⟨ret_bool (HF.out.symm), k0.trans ((b5.trans ((b6.trans (b7.mono b6.size)).mono b5.size)).mono k0.size)⟩
    · have e23 : (k == 23) = false := by simp [h23]
      have HF : Hid (R = (n == 0)) := by show _ = _; rw [HE.out, HNB.out, if_neg h23]; by_cases h : n = 0 <;> simp [h]
      clear HNB h23 HE
      go_enter Tryz.func50, Tryz.ntmps50
      go_wp2_with (first | (go_at_call 71; (with_reducible refine (hkd _).mono ?_); rintro e w4 ⟨rfl, hw⟩; rw [hw]; clear hw w4) | (go_at_call 72; (with_reducible refine hal.mono ?_); rintro e w5 ⟨rfl, b5⟩; obtain ⟨q0, q1, q2, q3, q4, q5, q6, q7⟩ := box8 ((b5.block w.heap.size (by simp)).trans box)) | (go_at_call 73; (with_reducible refine (htx _).mono ?_); rintro e w6 ⟨rfl, b6⟩; obtain ⟨p0, p1, p2, p3, p4, p5, p6, p7⟩ := box8 ((b6.block w.heap.size (Nat.lt_of_lt_of_le (by simp) b5.size)).trans ((b5.block w.heap.size (by simp)).trans box))) | (go_at_call 74; (with_reducible refine (hnm _ (b5.trans (b6.mono b5.size))).mono ?_); rintro e w7 ⟨rfl, b7⟩; obtain ⟨o0, o1, o2, o3, o4, o5, o6, o7⟩ := box8 ((b7.block w.heap.size (Nat.lt_of_lt_of_le (by simp) (Nat.le_trans b5.size b6.size))).trans ((b6.block w.heap.size (Nat.lt_of_lt_of_le (by simp) b5.size)).trans ((b5.block w.heap.size (by simp)).trans box)))))
      go_ret
      exact ⟨ret_bool (HF.out.symm), k0.trans ((b5.trans ((b6.trans (b7.mono b6.size)).mono b5.size)).mono k0.size)⟩
  · have hkd := fun W => rkids_no k W hn
    have HE : Hid (R = false) := by show _ = _; rw [HR.out, (kid_no k n kn g hn).1]; rfl
    clear hn HR hs0 ha0 hk0 ht
    go_enter Tryz.func50, Tryz.ntmps50
    go_wp2_with (first | (go_at_call 71; (with_reducible refine (hkd _).mono ?_); rintro e w4 ⟨rfl, hw⟩; rw [hw]; clear hw w4))
    go_ret
    exact ⟨ret_bool (HE.out.symm), k0⟩
end Go.Proofs.YtiahilelcppfgaaGreat
