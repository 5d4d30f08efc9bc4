
/- The document's numbers as texts. -/

import Derived.Test.YtppcfpiihkaopaaGreatDoorWA

namespace Go.Proofs.YtppcfpiihkaopaaGreatDoor

set_option linter.unusedVariables false

section

open Go.RowKit Go.Lib

set_option maxHeartbeats 1000000 in
theorem number10_any (n : Int) (w : World) (h0 : -9223372036854775808 ≤ n) (h1 : n ≤ 9223372036854775807) (T : Tb w) :
    Calls Tryz.prog 31 #[.int .i64 n] w fun e w' => e = .returned (.string ⟨(wrt n).toArray⟩) ∧ Below w.heap.size w w' := by
  have c := Tryz.strconv_FormatInt_10 n h0 h1 w T.tab
  have hl := wr_len n h0 h1
  by_cases hn : n < 0
  · have t : decide (n < 0) = true := by simp [hn]
    have HW : Hid (wrt n = 95 :: decDigits n.natAbs) := if_pos hn
    rw [show itoa n = 45 :: decDigits n.natAbs from if_pos hn] at c
    have hl' : ¬ 9223372036854775807 < 1 + (decDigits n.natAbs).length := by rw [HW.out, List.length_cons] at hl; omega
    clear hn hl
    go_enter Tryz.func31, Tryz.ntmps31
    go_wp2_with (go_at_call 51; (with_reducible refine c.mono ?_); rintro e w1 ⟨rfl, k, os, hw⟩; have b1 : Below w.heap.size w w1 := (by rw [hw]; exact (drewN_belowS w k).trans ((grow_below (w.drewN k) os).mono (by simp))); clear hw)
    go_ret
    refine ⟨ret_str ?_, b1⟩
    show Value.string _ = _
    rw [bs_cut, bs_app _ _, HW.out]
    simp
  · have t : decide (n < 0) = false := by simp [hn]
    have HW : Hid (wrt n = decDigits n.toNat) := if_neg hn
    rw [show itoa n = decDigits n.toNat from if_neg hn] at c
    clear hn hl
    go_enter Tryz.func31, Tryz.ntmps31
    go_wp2_with (go_at_call 51; (with_reducible refine c.mono ?_); rintro e w1 ⟨rfl, k, os, hw⟩; have b1 : Below w.heap.size w w1 := (by rw [hw]; exact (drewN_belowS w k).trans ((grow_below (w.drewN k) os).mono (by simp))); clear hw)
    go_ret
    exact ⟨ret_str (by rw [HW.out]; rfl), b1⟩
end

open Go.RowKit

set_option linter.unusedSimpArgs false in
set_option maxHeartbeats 4000000 in
set_option maxRecDepth 100000 in
theorem numbers10_any (ao : Option Addr) (n cap : Nat) (zs : List Int) (w : World) (h : Rd w ao n zs) (hn : n ≤ 4096) (T : Tb w) :
    Calls Tryz.prog 30 #[.slice ao n cap] w fun e w' => e = .returned (.string ⟨(inL zs).toArray⟩) ∧ Below w.heap.size w w' := by
  have H64 := in64_of h
  have HL : Hid (zs.length = n) := h.len
  have LB : ∀ k, k ≤ n → (inL (zs.take k)).length ≤ 90112 := fun k hk => by
    have := inL_len (zs.take k) fun x hx => H64 x (List.mem_of_mem_take hx)
    rw [List.length_take] at this; omega
  go_enter Tryz.func30, Tryz.ntmps30
  go_wp2
  go_loopw [3, 4] (fun b i wr => ∃ (k : Nat) (bo : Option Addr) (bn bc : Nat), k ≤ n ∧ i = .int .i64 (k : Nat) ∧ b = .slice bo bn bc ∧ Br wr w.heap.size bo bn bc (inL (zs.take k)) ∧ Below w.heap.size w wr) (fun _ i _ => n - (intOf i).toNat)
  case atStart => exact ⟨0, none, 0, 0, Nat.zero_le _, rfl, rfl, Br.nil _ _, Below.refl _ _⟩
  case round =>
    obtain ⟨k, bo, bn, bc, hk, rfl, rfl, hB, hb⟩ := hrel
    by_cases hlt : k < n
    · obtain ⟨b, off, rfl, hbb, hc⟩ := h.cells (by omega)
      have cw := hc k hlt
      have c1 := (hb.cell (p := ⟨b, _, none⟩) hbb).trans cw
      have hbl : bn ≤ 90112 := by rw [← hB.1]; exact LB k hk
      have hz := h.num k hlt
      have HT : Hid (inL (zs.take (k + 1)) = if k = 0 then wrt (nth zs k) else inL (zs.take k) ++ 32 :: wrt (nth zs k)) := inL_take (by have := HL.out; omega)
      have hwl := wr_len (nth zs k) hz.1 hz.2
      have TW := T.below hb
      have CW : Hid (w.cell? ⟨b, off + k, none⟩ = some (.int .i64 (nth zs k))) := cw
      clear hc h LB cw
      by_cases h0 : k = 0
      · subst h0
        rw [Nat.add_zero] at c1
        have e0 : inL (zs.take 0) = [] := rfl
        rw [e0] at hB
        have HT' : Hid (inL (zs.take (0 + 1)) = wrt (nth zs 0)) := by have := HT.out; rw [if_pos rfl] at this; exact this
        have cW := number10_any (nth zs 0) wr hz.1 hz.2 TW
        clear HT e0
        go_wp2_with (first
          | (go_at_call 31; (with_reducible refine cW.mono ?_); rintro e w1 ⟨rfl, j1⟩; have B1 := hB.below j1 (Nat.le_refl _); have K1 := hb.trans (j1.mono hb.size))
          | (at_builtin; refine wpList_appS rfl _ _ rfl w.heap.size _ _ _ _ _ _ rfl rfl rfl B1 (by omega) K1.size ?_; intro co cc w2 B2 j2))
        go_roundw
        case rel => exact ⟨0 + 1, co, _, cc, by omega, by go_num, rfl, (by rw [HT'.out]; exact B2), K1.trans j2⟩
        case measure => simp [intOf]; omega
      · have t0 : (0 : Int) < (k : Int) := by omega
        have t0' : 0 < k := by omega
        have HT' : Hid (inL (zs.take (k + 1)) = inL (zs.take k) ++ [32] ++ wrt (nth zs k)) := by have := HT.out; rw [if_neg h0] at this; show _ = _; rw [this]; simp
        clear HT h0
        generalize inL (zs.take k) = acc at *
        have ka := box_below wr (.cells #[.int .u8 32] 5)
        have Ra := allocNew wr (.cells #[.int .u8 32] 5)
        have ca : (wr.alloc (.cells #[.int .u8 32] 5)).cell? ⟨wr.heap.size, 0, none⟩ = some (.int .u8 ((32 : UInt8).toNat : Nat)) := (cell_of_row _ wr.heap.size 0 _ _ (0, 0) Ra).trans rfl
        have BA := hB.below ka (Nat.le_refl _)
        have KA := hb.trans (ka.mono hb.size)
        clear Ra ka
        go_wp2_with (first
          | (at_builtin; refine wpList_appB rfl _ _ rfl w.heap.size (bn + 1) _ _ _ wr.heap.size _ 32 rfl rfl rfl BA ca (by omega) KA.size ?_; intro co cc w2 B2 j2; have K2 := KA.trans j2; have cW := number10_any (nth zs k) w2 hz.1 hz.2 (T.below K2); have c2 := (K2.cell (p := ⟨b, off + k, none⟩) hbb).trans CW.out)
          | (go_at_call 31; (with_reducible refine cW.mono ?_); rintro e w3 ⟨rfl, j3⟩; have B3 := B2.below j3 (Nat.le_refl _); have K3 := K2.trans (j3.mono K2.size))
          | (at_builtin; refine wpList_appS rfl _ _ rfl w.heap.size _ _ _ _ _ _ rfl rfl rfl B3 (by omega) K3.size ?_; intro co' cc' w4 B4 j4))
        go_roundw
        case rel => exact ⟨k + 1, co', _, cc', by omega, by go_num, rfl, (by rw [HT'.out]; exact B4), K3.trans j4⟩
        case measure => simp [intOf]; omega
    · obtain rfl : k = n := by omega
      rw [List.take_of_length_le (by have := HL.out; omega)] at hB
      have cv := conv_row hB
      go_wp2
      go_returns
      exact ⟨rfl, hb⟩
end Go.Proofs.YtppcfpiihkaopaaGreatDoor
