
/- Package arr: Compare and the document's Same, as wip/arr has them. -/

import Derived.Test.YtiahilelcppfgaaGreatA4

import Derived.Test.YtiahilelcppfgaaGreatPB

import Derived.BigQuiet

import Derived.Deep.OwnRows

import Derived.Deep.QuietTactic

import Derived.Deep.RegionHeld3

import Derived.Deep.RegionLaw

import Derived.Deep.RegionWith

import Derived.Handy

import Derived.IntWalk

import Derived.Laws.AppendOwnNone

import Derived.Laws.Bits64b

import Derived.Laws.CopyOwn

import Derived.Laws.OwnMore

import Derived.WalkKit

namespace Go.Proofs.YtiahilelcppfgaaGreat

open Go.RowKit

set_option linter.unusedVariables false

theorem cmpL_self : ∀ a, cmpL a a = 0
  | [] => rfl
  | x :: a => by rw [cmpL_step]; exact cmpL_self a
theorem lex_zero {x y : Int} : lex x y = 0 ↔ x = 0 ∧ y = 0 := by
  unfold lex
  by_cases h : x = 0
  · rw [if_pos h]; omega
  · rw [if_neg h]; omega
theorem cmpA_zero (s a t b : List Int) : cmpA s a t b = 0 ↔ s = t ∧ a = b := by
  unfold cmpA
  rw [lex_zero, lex_zero, cmpL_zero, cmpL_zero, cmpI_zero]
  constructor
  · rintro ⟨_, h⟩; exact h
  · rintro ⟨rfl, rfl⟩; exact ⟨rfl, rfl, rfl⟩
theorem eqA_iff (s a t b : List Int) : eqA s a t b = true ↔ s = t ∧ a = b := by unfold eqA eqB; simp
theorem before_any (b : Bool) (w : World) : Calls Tryz.prog 110 #[.bool b] w fun e w' => e = .returned (.int .i64 (if b then -1 else 1)) ∧ w' = w := by
  cases b
  · go_enter Tryz.func110, Tryz.ntmps110
    go_wp2
    go_ret
    exact ⟨rfl, rfl⟩
  · go_enter Tryz.func110, Tryz.ntmps110
    go_wp2
    go_ret
    exact ⟨rfl, rfl⟩
theorem before_int (x y : Int) (h : x ≠ y) (w : World) : Calls Tryz.prog 110 #[.bool (decide (x < y))] w fun e w' => e = .returned (.int .i64 (cmpI x y)) ∧ w' = w := by
  refine (before_any _ w).mono fun e w' ⟨h1, h2⟩ => ⟨?_, h2⟩
  rw [h1]
  by_cases c : x < y
  · rw [cmpI_lt c]; simp [c]
  · rw [cmpI_gt (by omega)]; simp [c]
theorem cmpA_len {s a t b : List Int} {x : Int} (h : cmpI s.length t.length = x) (hx : x ≠ 0) : cmpA s a t b = x := by unfold cmpA lex; rw [h, if_neg hx]
theorem cmpA_shape {s a t b : List Int} (h : s.length = t.length) (hx : cmpL s t ≠ 0) : cmpA s a t b = cmpL s t := by
  unfold cmpA; rw [h, cmpI_self]; unfold lex; rw [if_pos rfl, if_neg hx]
theorem cmpA_atoms {s a t b : List Int} (h : s = t) : cmpA s a t b = cmpL a b := by
  unfold cmpA; rw [h, cmpI_self, cmpL_self]; unfold lex; rw [if_pos rfl, if_pos rfl]
theorem cmpI_ne {x y : Int} (h : x ≠ y) : cmpI x y ≠ 0 := fun e => h (cmpI_zero.1 e)
set_option maxHeartbeats 8000000 in
set_option maxRecDepth 20000 in
theorem refCompare_any (so ao to bo : Option Addr) (sn sc an ac tn tc bn bc : Nat) (s a t b : List Int) (w : World) (hs : Rd w so sn s) (ha : Rd w ao an a) (ht : Rd w to tn t) (hb : Rd w bo bn b) :
    Calls Tryz.prog 75 #[.agg #[.slice so sn sc, .slice ao an ac], .agg #[.slice to tn tc, .slice bo bn bc]] w fun e w' => e = .returned (.int .i64 (cmpA s a t b)) ∧ Below w.heap.size w w' := by
  have HS : Hid (s.length = sn) := hs.len
  have HA : Hid (a.length = an) := ha.len
  have HT : Hid (t.length = tn) := ht.len
  have HB : Hid (b.length = bn) := hb.len
  have rs := hs.room
  have ra := ha.room
  have rt := ht.room
  have rb := hb.room
  have tw := two_boxes w so ao to bo sn sc an ac tn tc bn bc
  have k1 := box_below w (.cells #[.slice so sn sc, .slice ao an ac] 28)
  have k2 := box_below (w.alloc (.cells #[.slice so sn sc, .slice ao an ac] 28)) (.cells #[.slice to tn tc, .slice bo bn bc] 28)
  have hs' := (hs.below k1 (Nat.le_refl _)).below k2 (Nat.le_refl _)
  have ha' := (ha.below k1 (Nat.le_refl _)).below k2 (Nat.le_refl _)
  have ht' := (ht.below k1 (Nat.le_refl _)).below k2 (Nat.le_refl _)
  have hb' := (hb.below k1 (Nat.le_refl _)).below k2 (Nat.le_refl _)
  clear hs ha ht hb k1 k2
  by_cases h1 : sn = tn
  · subst h1
    have h1' : ((sn : Int) != (sn : Int)) = false := by simp
    go_enter Tryz.func75, Tryz.ntmps75
    go_wp2
    go_loopw [5] (fun i wr => ∃ k : Nat, k ≤ sn ∧ i = .int .i64 (k : Nat) ∧ Hid (∀ j, j < k → nth s j = nth t j) ∧ Two w wr so sn sc ao an ac to sn tc bo bn bc ∧ Rd wr so sn s ∧ Rd wr ao an a ∧ Rd wr to sn t ∧ Rd wr bo bn b) (fun i _ => sn - (intOf i).toNat)
    case atStart => exact ⟨0, Nat.zero_le _, rfl, fun j hj => by omega, tw, hs', ha', ht', hb'⟩
    case round =>
      obtain ⟨k, hk, rfl, HZ, tk, ks, ka, kt, kb⟩ := hrel
      obtain ⟨c1, c2, c3, c4, bel⟩ := tk
      clear tw hs' ha' ht' hb'
      by_cases hlt : k < sn
      · obtain ⟨p, off, rfl, hp, hc⟩ := ks.cells (by omega)
        obtain ⟨p2, off2, rfl, hp2, hc2⟩ := kt.cells (by omega)
        have d1 := hc k hlt
        have d2 := hc2 k hlt
        clear hc hc2
        by_cases he : nth s k = nth t k
        · have hne : (nth s k != nth t k) = false := by simpa using he
          have HE : Hid (nth s k = nth t k) := he
          clear he
          go_wp2
          go_quiet (fail)
          go_wp2
          go_roundw
          case rel => exact ⟨k + 1, by omega, by go_num, fun j hj => by by_cases e : j = k; (· subst e; exact HE.out); exact HZ.out j (by omega), Two.drewN ⟨c1, c2, c3, c4, bel⟩ _, ks.drewN _, ka.drewN _, kt.drewN _, kb.drewN _⟩
          case measure => simp [intOf]; omega
        · have hne : (nth s k != nth t k) = true := by simpa using he
          have HE : Hid (nth s k ≠ nth t k) := he
          have cbf := fun W => before_int (nth s k) (nth t k) he W
          clear he
          go_wp2
          go_quiet (fail)
          go_wp2
          go_region_held3 (fun W => W.cell? ⟨w.heap.size, 0, none⟩ = some (.slice (some ⟨p, off, none⟩) sn sc) ∧ W.cell? ⟨w.heap.size + 1, 0, none⟩ = some (.slice (some ⟨p2, off2, none⟩) sn tc) ∧ W.cell? ⟨p, off + k, none⟩ = some (.int .i64 (nth s k)) ∧ W.cell? ⟨p2, off2 + k, none⟩ = some (.int .i64 (nth t k)) ∧ Below w.heap.size w W) (first | assumption | exact ⟨by simpa using c1, by simpa using c3, by simpa using d1, by simpa using d2, (below_drewN bel _).drew⟩ | exact ⟨by simpa using c1, by simpa using c3, by simpa using d1, by simpa using d2, below_drewN bel _⟩)
            (first
              | (go_at_call 110; refine (cbf _).mono ?_; rintro e w' ⟨rfl, hw⟩; subst hw))
          rename_i SS
          have belS := SS.2.2.2.2
          go_wp2
          go_ret
          have HR := cmpL_part (k := k) (by have := HS.out; omega) (by have := HT.out; omega) HZ.out (cmpI_ne HE.out)
          refine ⟨ret_int ?_, belS⟩
          rw [cmpA_shape (by rw [HS.out, HT.out]) (by rw [HR]; exact cmpI_ne HE.out), HR]
      · obtain rfl : k = sn := by omega
        have HST : Hid (s = t) := ext_nth (by rw [HS.out, HT.out]) (by rw [HS.out]; exact HZ.out)
        go_wp2
        go_loopw [6] (fun i ws => ∃ j : Nat, j ≤ an ∧ j ≤ bn ∧ i = .int .i64 (j : Nat) ∧ Hid (∀ l, l < j → nth a l = nth b l) ∧ Two w ws so k sc ao an ac to k tc bo bn bc ∧ Rd ws ao an a ∧ Rd ws bo bn b) (fun i _ => an - (intOf i).toNat)
        case atStart => exact ⟨0, Nat.zero_le _, Nat.zero_le _, rfl, fun j hj => by omega, ⟨c1, c2, c3, c4, bel⟩, ka, kb⟩
        case round =>
          clear ks ka kt kb c1 c2 c3 c4 bel
          obtain ⟨j, hj, hj2, rfl, HY, tk, ka, kb⟩ := hrel
          obtain ⟨c1, c2, c3, c4, bel⟩ := tk
          by_cases hlt2 : j < an
          · have g1 : decide ((j : Int) < (an : Int)) = true := by simp; omega
            by_cases hlt3 : j < bn
            · have g2 : decide ((j : Int) < (bn : Int)) = true := by simp; omega
              obtain ⟨p, off, rfl, hp, hc⟩ := ka.cells (by omega)
              obtain ⟨p2, off2, rfl, hp2, hc2⟩ := kb.cells (by omega)
              have d1 := hc j hlt2
              have d2 := hc2 j hlt3
              clear hc hc2
              by_cases he : nth a j = nth b j
              · have hne : (nth a j != nth b j) = false := by simpa using he
                have HE : Hid (nth a j = nth b j) := he
                clear he
                go_wp2
                go_quiet (fail)
                go_wp2
                go_roundw
                case rel => exact ⟨j + 1, by omega, by omega, by go_num, fun l hl => by by_cases e : l = j; (· subst e; exact HE.out); exact HY.out l (by omega), Two.drewN ⟨c1, c2, c3, c4, bel⟩ _, ka.drewN _, kb.drewN _⟩
                case measure => simp [intOf]; omega
              · have hne : (nth a j != nth b j) = true := by simpa using he
                have HE : Hid (nth a j ≠ nth b j) := he
                have cbf := fun W => before_int (nth a j) (nth b j) he W
                clear he
                go_wp2
                go_quiet (fail)
                go_wp2
                go_region_held3 (fun W => W.cell? ⟨w.heap.size, 1, none⟩ = some (.slice (some ⟨p, off, none⟩) an ac) ∧ W.cell? ⟨w.heap.size + 1, 1, none⟩ = some (.slice (some ⟨p2, off2, none⟩) bn bc) ∧ W.cell? ⟨p, off + j, none⟩ = some (.int .i64 (nth a j)) ∧ W.cell? ⟨p2, off2 + j, none⟩ = some (.int .i64 (nth b j)) ∧ Below w.heap.size w W) (first | assumption | exact ⟨by simpa using c2, by simpa using c4, by simpa using d1, by simpa using d2, (below_drewN bel _).drew⟩ | exact ⟨by simpa using c2, by simpa using c4, by simpa using d1, by simpa using d2, below_drewN bel _⟩)
                  (first
                    | (go_at_call 110; refine (cbf _).mono ?_; rintro e w' ⟨rfl, hw⟩; subst hw))
                rename_i SS
                have belS := SS.2.2.2.2
                go_wp2
                go_ret
                have HR := cmpL_part (k := j) (by have := HA.out; omega) (by have := HB.out; omega) HY.out (cmpI_ne HE.out)
                refine ⟨ret_int ?_, belS⟩
                rw [cmpA_atoms HST.out, HR]
            · obtain rfl : j = bn := by omega
              have g2 : decide ((j : Int) < (j : Int)) = false := by simp
              have g3 : ((an : Int) != (j : Int)) = true := by simp; omega
              have cbf := fun W => before_int (an : Int) (j : Int) (by omega) W
              have HR := cmpL_long (a := a) (b := b) (by rw [HA.out, HB.out]; exact hlt2) (by rw [HB.out]; exact HY.out)
              have HC : Hid (cmpI (an : Int) (j : Int) = 1) := cmpI_gt (by omega)
              go_wp2_with (go_at_call 110; refine (before_any _ _).mono ?_; rintro e w' ⟨rfl, hw⟩; rw [hw]; clear hw w')
              go_ret
              exact ⟨ret_int (by rw [cmpA_atoms HST.out, HR]), bel⟩
          · obtain rfl : j = an := by omega
            have g1 : decide ((j : Int) < (j : Int)) = false := by simp
            by_cases hab : j = bn
            · subst hab
              have g3 : ((j : Int) != (j : Int)) = false := by simp
              have HR := cmpL_same (a := a) (b := b) (by rw [HA.out, HB.out]) (by rw [HA.out]; exact HY.out)
              go_wp2
              go_ret
              exact ⟨ret_int (by rw [cmpA_atoms HST.out, HR]), bel⟩
            · have g3 : ((j : Int) != (bn : Int)) = true := by simp; omega
              have cbf := fun W => before_int (j : Int) (bn : Int) (by omega) W
              have HR := cmpL_short (a := a) (b := b) (by rw [HA.out, HB.out]; omega) (by rw [HA.out]; exact HY.out)
              have HC : Hid (cmpI (j : Int) (bn : Int) = -1) := cmpI_lt (by omega)
              go_wp2_with (go_at_call 110; refine (before_any _ _).mono ?_; rintro e w' ⟨rfl, hw⟩; rw [hw]; clear hw w')
              go_ret
              exact ⟨ret_int (by rw [cmpA_atoms HST.out, HR]), bel⟩
  · have h1' : ((sn : Int) != (tn : Int)) = true := by simp; omega
    have HC : Hid (cmpA s a t b = cmpI (sn : Int) (tn : Int)) := cmpA_len (by rw [HS.out, HT.out]) (cmpI_ne (by omega))
    clear hs' ha' ht' hb'
    by_cases c : sn < tn
    · have HD : Hid (cmpI (sn : Int) (tn : Int) = -1) := cmpI_lt (by omega)
      go_enter Tryz.func75, Tryz.ntmps75
      go_wp2_with (go_at_call 110; refine (before_any _ _).mono ?_; rintro e w' ⟨rfl, hw⟩; rw [hw]; clear hw w')
      go_ret
      exact ⟨ret_int (by rw [HC.out, HD.out]), tw.bel⟩
    · have HD : Hid (cmpI (sn : Int) (tn : Int) = 1) := cmpI_gt (by omega)
      go_enter Tryz.func75, Tryz.ntmps75
      go_wp2_with (go_at_call 110; refine (before_any _ _).mono ?_; rintro e w' ⟨rfl, hw⟩; rw [hw]; clear hw w')
      go_ret
      exact ⟨ret_int (by rw [HC.out, HD.out]), tw.bel⟩
theorem refSame_any (so ao to bo : Option Addr) (sn sc an ac tn tc bn bc : Nat) (s a t b : List Int) (w : World) (hs : Rd w so sn s) (ha : Rd w ao an a) (ht : Rd w to tn t) (hb : Rd w bo bn b) :
    Calls Tryz.prog 51 #[.agg #[.slice so sn sc, .slice ao an ac], .agg #[.slice to tn tc, .slice bo bn bc]] w fun e w' => e = .returned (.bool (eqA s a t b)) ∧ Below w.heap.size w w' := by
  have tw := two_boxes w so ao to bo sn sc an ac tn tc bn bc
  have k1 := box_below w (.cells #[.slice so sn sc, .slice ao an ac] 28)
  have k2 := box_below (w.alloc (.cells #[.slice so sn sc, .slice ao an ac] 28)) (.cells #[.slice to tn tc, .slice bo bn bc] 28)
  have cc := refCompare_any so ao to bo sn sc an ac tn tc bn bc s a t b _ ((hs.below k1 (Nat.le_refl _)).below k2 (Nat.le_refl _)) ((ha.below k1 (Nat.le_refl _)).below k2 (Nat.le_refl _)) ((ht.below k1 (Nat.le_refl _)).below k2 (Nat.le_refl _)) ((hb.below k1 (Nat.le_refl _)).below k2 (Nat.le_refl _))
  have e0 := cmpA_zero s a t b
  rw [← eqA_iff] at e0
  have HE : Hid (eqA s a t b = (cmpA s a t b == 0)) := by
    show _ = _
    cases h : eqA s a t b
    · rw [h] at e0; simp at e0; simp [e0]
    · rw [h] at e0; simp at e0; simp [e0]
  clear e0 k1 k2 hs ha ht hb
  generalize cmpA s a t b = x at *
  go_enter Tryz.func51, Tryz.ntmps51
  go_wp2_with (go_at_call 75; refine cc.mono ?_; rintro e w1 ⟨rfl, h1⟩; have bel := btw tw.bel h1 tw.bel.size)
  go_ret
  exact ⟨ret_bool HE.out.symm, bel⟩
end Go.Proofs.YtiahilelcppfgaaGreat
