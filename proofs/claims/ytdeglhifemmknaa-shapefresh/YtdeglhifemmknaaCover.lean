
/- Contract of package shape's Cover. -/

import Derived.Test.YtdeglhifemmknaaCommon

namespace Go.Proofs.Ytdeglhifemmknaa

open Go.RowKit

set_option linter.unusedVariables false

/-- The k-th of some lists. -/
def row (zss : List (List Int)) (k : Nat) : List Int := zss.getD k []

/-- A slice of slices of numbers reads as these lists. -/
structure Rs (w : World) (ao : Option Addr) (n : Nat) (zss : List (List Int)) : Prop where
  len : zss.length = n
  room : n * 24 ≤ 140737488355328
  cells : 0 < n → ∃ b off, ao = some ⟨b, off, none⟩ ∧ b < w.heap.size ∧ ∀ k, k < n → ∃ A L C, w.cell? ⟨b, off + k, none⟩ = some (.slice A L C) ∧ Rd w A L (row zss k) ∧ Sl A L C

theorem Rs.below {B : Nat} {w w' : World} {ao : Option Addr} {n : Nat} {zss : List (List Int)} (h : Rs w ao n zss) (hb : Below B w w') (hB : w.heap.size ≤ B) : Rs w' ao n zss := by
  refine ⟨h.len, h.room, fun h0 => ?_⟩
  obtain ⟨b, off, e, hl, hc⟩ := h.cells h0
  refine ⟨b, off, e, Nat.lt_of_lt_of_le hl hb.size, fun k hk => ?_⟩
  obtain ⟨A, L, C, h1, h2, h3⟩ := hc k hk
  exact ⟨A, L, C, by rw [hb.cell (p := ⟨b, off + k, none⟩) (Nat.lt_of_lt_of_le hl hB)]; exact h1, h2.below hb hB, h3⟩

/-- The common shape of the first k (of none: the first one). -/
def cst (zss : List (List Int)) : Nat → List Int
  | 0 => row zss 0
  | k + 1 => com (cst zss k) (row zss k)
def errAt (zss : List (List Int)) (k : Nat) : Int := if mayF (row zss k) ≠ 0 then mayF (row zss k) else mayF (cst zss (k + 1))
/-- The first error of the first k. -/
def cE (zss : List (List Int)) : Nat → Int
  | 0 => 0
  | k + 1 => if cE zss k ≠ 0 then cE zss k else errAt zss k
def covE (zss : List (List Int)) : Int := if zss.length = 0 then 1 else cE zss zss.length
def covL (zss : List (List Int)) : List Int := if covE zss = 0 then cst zss zss.length else []

theorem cE_stay {zss : List (List Int)} {k : Nat} (h : cE zss k ≠ 0) : ∀ m, cE zss (k + m) = cE zss k
  | 0 => rfl
  | m + 1 => by
    show (if cE zss (k + m) ≠ 0 then cE zss (k + m) else errAt zss (k + m)) = _
    rw [cE_stay h m, if_pos h]
theorem cov_bad {zss : List (List Int)} {k n : Nat} {e : Int} (hl : zss.length = n) (hk : k < n) (h : cE zss (k + 1) = e) (he : e ≠ 0) : covE zss = e ∧ covL zss = [] := by
  have h1 : covE zss = e := by
    unfold covE; rw [if_neg (by omega), hl, show n = (k + 1) + (n - (k + 1)) by omega, cE_stay (by rw [h]; exact he), h]
  exact ⟨h1, by unfold covL; rw [h1, if_neg he]⟩
theorem cov_good {zss : List (List Int)} {n : Nat} (hl : zss.length = n) (h0 : 0 < n) (h : cE zss n = 0) : covE zss = 0 ∧ covL zss = cst zss n := by
  have h1 : covE zss = 0 := by unfold covE; rw [if_neg (by omega), hl, h]
  exact ⟨h1, by unfold covL; rw [h1, if_pos rfl, hl]⟩
theorem cE_row {zss : List (List Int)} {k : Nat} (h : cE zss k = 0) (hr : mayF (row zss k) ≠ 0) : cE zss (k + 1) = mayF (row zss k) := by
  show (if cE zss k ≠ 0 then cE zss k else errAt zss k) = _
  rw [if_neg (by simp [h])]; unfold errAt; rw [if_pos hr]
theorem cE_com {zss : List (List Int)} {k : Nat} (h : cE zss k = 0) (hr : mayF (row zss k) = 0) : cE zss (k + 1) = mayF (cst zss (k + 1)) := by
  show (if cE zss k ≠ 0 then cE zss k else errAt zss k) = _
  rw [if_neg (by simp [h])]; unfold errAt; rw [if_neg (by simp [hr])]

set_option maxHeartbeats 4000000 in
theorem cover_any (ao : Option Addr) (n cap : Nat) (zss : List (List Int)) (w : World) (h : Rs w ao n zss) :
    Calls Try.prog 17 #[.slice ao n cap] w fun e w' => ∃ co k c, e = .returned (.tuple #[.slice co k c, .int .i64 (covE zss)]) ∧ Fr w' w.heap.size co k c (covL zss) ∧ Below w.heap.size w w' := by
  have hroom := h.room
  have HL : Hid (zss.length = n) := h.len
  by_cases h0 : n = 0
  · subst h0
    go_enter Try.func17, Try.ntmps17
    go_wp2
    go_ret2
    have e1 : covE zss = 1 := by unfold covE; rw [if_pos HL.out]
    refine ⟨_, _, _, ret_lone rfl rfl rfl e1.symm, ?_, Below.refl _ _⟩
    unfold covL; rw [e1, if_neg (by omega)]; exact Fr.nil _ _
  · obtain ⟨b, off, rfl, hb, hc⟩ := h.cells (by omega)
    obtain ⟨A0, L0, C0, c0, r0, s0⟩ := hc 0 (by omega)
    have h0' : ((n : Int) == 0) = false := by simp; omega
    rw [Nat.add_zero] at c0
    go_enter Try.func17, Try.ntmps17
    go_wp2
    go_loopw [4, 17] (fun v i wr => ∃ k : Nat, k ≤ n ∧ i = .int .i64 (k : Nat) ∧ cE zss k = 0 ∧ (∃ co m c, v = .slice co m c ∧ Rd wr co m (cst zss k) ∧ (0 < k → Fr wr w.heap.size co m c (cst zss k))) ∧ Below w.heap.size w wr) (fun _ i _ => n - (intOf i).toNat)
    case atStart => exact ⟨0, Nat.zero_le _, rfl, rfl, ⟨A0, L0, C0, rfl, r0, fun h => by omega⟩, Below.refl _ _⟩
    case round =>
      obtain ⟨k, hk, rfl, hE, ⟨co, m, c, rfl, hrd, hfr⟩, hbr⟩ := hrel
      have HE : Hid (cE zss k = 0) := hE
      clear hE
      by_cases hlt : k < n
      · obtain ⟨A, L, C, c1, r1, s1⟩ := hc k hlt
        rw [← hbr.cell (p := ⟨b, off + k, none⟩) hb] at c1
        have r1' := r1.below hbr (Nat.le_refl _)
        clear c0 hc r1 hfr
        have hmay := fun W (hW : Rd W A L (row zss k)) => may_any A L C (row zss k) W hW
        have hcom := fun W (h1 : Rd W co m (cst zss k)) (h2 : Rd W A L (row zss k)) => common_any co A m L c C _ _ W h1 h2
        by_cases hr : mayF (row zss k) = 0
        · have HR : Hid (mayF (row zss k) = 0) := hr
          rw [hr] at hmay
          clear hr
          by_cases hcm : mayF (cst zss (k + 1)) = 0
          · have hm2 : ∀ W co k' c', Rd W co k' (com (cst zss k) (row zss k)) → Calls Try.prog 18 #[.slice co k' c'] W fun e w' => e = .returned (.int .i64 0) ∧ w' = W := fun W co k' c' hW => by
              have := may_any co k' c' _ W hW
              rwa [show mayF (com (cst zss k) (row zss k)) = 0 from hcm] at this
            have HC : Hid (mayF (cst zss (k + 1)) = 0) := hcm
            clear hcm
            go_wp2_with (first | (go_at_call 18; refine (hmay _ (by assumption)).mono ?_; clear hmay; rintro e w' ⟨rfl, hw⟩; subst hw) | (go_at_call 30; refine (hcom _ (by assumption) (by assumption)).mono ?_; rintro e w2 ⟨co2, k2, c2, rfl, hf2, hb2⟩; have hrd2 := hf2.rd) | (go_at_call 18; refine (hm2 _ _ _ _ (by assumption)).mono ?_; rintro e w' ⟨rfl, hw⟩; subst hw))
            go_roundw
            case rel => exact ⟨k + 1, by omega, by go_num, by rw [cE_com HE.out HR.out, HC.out], ⟨_, _, _, rfl, hrd2, fun _ => hf2.mono hbr.size⟩, hbr.trans (hb2.mono hbr.size)⟩
            case measure => simp [intOf]; omega
          · have hcm' : (mayF (com (cst zss k) (row zss k)) != 0) = true := by
              have : mayF (com (cst zss k) (row zss k)) ≠ 0 := hcm
              simpa using this
            have HC : Hid (mayF (cst zss (k + 1)) ≠ 0) := hcm
            have hm2 : ∀ W co k' c', Rd W co k' (com (cst zss k) (row zss k)) → Calls Try.prog 18 #[.slice co k' c'] W fun e w' => e = .returned (.int .i64 (mayF (com (cst zss k) (row zss k)))) ∧ w' = W := fun W co k' c' hW => may_any co k' c' _ W hW
            clear hcm
            go_wp2_with (first | (go_at_call 18; refine (hmay _ (by assumption)).mono ?_; clear hmay; rintro e w' ⟨rfl, hw⟩; subst hw) | (go_at_call 30; refine (hcom _ (by assumption) (by assumption)).mono ?_; rintro e w2 ⟨co2, k2, c2, rfl, hf2, hb2⟩; have hrd2 := hf2.rd) | (go_at_call 18; refine (hm2 _ _ _ _ (by assumption)).mono ?_; rintro e w' ⟨rfl, hw⟩; subst hw))
            go_ret2
            have := cov_bad HL.out hlt (cE_com HE.out HR.out) HC.out
            refine ⟨_, _, _, ret_lone rfl rfl rfl this.1.symm, ?_, hbr.trans (hb2.mono hbr.size)⟩
            rw [this.2]; exact Fr.nil _ _
        · have hr' : (mayF (row zss k) != 0) = true := by simpa using hr
          have HR : Hid (mayF (row zss k) ≠ 0) := hr
          clear hr
          go_wp2_with (go_at_call 18; refine (hmay _ (by assumption)).mono ?_; clear hmay; rintro e w' ⟨rfl, hw⟩; subst hw)
          go_ret2
          have := cov_bad HL.out hlt (cE_row HE.out HR.out) HR.out
          refine ⟨_, _, _, ret_lone rfl rfl rfl this.1.symm, ?_, hbr⟩
          rw [this.2]; exact Fr.nil _ _
      · obtain rfl : k = n := by omega
        go_wp2
        go_ret2
        have := cov_good HL.out (by omega) HE.out
        refine ⟨_, _, _, ret_lone rfl rfl rfl this.1.symm, ?_, hbr⟩
        rw [this.2]; exact hfr (by omega)
end Go.Proofs.Ytdeglhifemmknaa
