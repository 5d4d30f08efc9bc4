
/- Contracts of package shape's Size and Place, and of the document's own May, Count, Size and Place. -/

import Derived.Test.YtlajainnpnbcaaaMay

import Derived.Test.YtlajainnpnbcaaaMath

namespace Go.Proofs.Ytlajainnpnbcaaa

open Go.RowKit

set_option linter.unusedVariables false

set_option maxHeartbeats 1000000 in
theorem size_any (ao : Option Addr) (n cap : Nat) (zs : List Int) (w : World) (h : Rd w ao n zs) :
    Calls Try.prog 21 #[.slice ao n cap] w fun e w' => e = .returned (.tuple #[.int .i64 (sizeF zs), .int .i64 (mayF zs)]) ∧ w' = w := by
  have hroom := h.room
  have HL : Hid (zs.length = n) := h.len
  have hm := may_any ao n cap zs w h
  by_cases h0 : mayF zs = 0
  · rw [h0] at hm
    have H0 : Hid (mayF zs = 0) := h0
    clear h0
    go_enter Try.func21, Try.ntmps21
    go_wp2_with (go_at_call 23; refine hm.mono ?_; rintro e w' ⟨rfl, rfl⟩)
    go_loop [5, 15] (fun p i => ∃ k : Nat, k ≤ n ∧ i = .int .i64 (k : Nat) ∧ p = .int .i64 (pr (zs.take k))) (fun _ i => n - (intOf i).toNat)
    case atStart => exact ⟨0, Nat.zero_le _, rfl, rfl⟩
    case round =>
      obtain ⟨k, hk, rfl, rfl⟩ := hrel
      by_cases hlt : k < n
      · obtain ⟨b, off, rfl, hb, hc⟩ := h.cells (by omega)
        have hc' := hc k hlt
        have hnum := h.num k hlt
        have hb1 := pr_small H0.out (k + 1) (by have := HL.out; omega)
        have e1 : pr (zs.take (k + 1)) = pr (zs.take k) * nth zs k := by rw [take_nth (by have := HL.out; omega), pr_snoc]
        have HS : Hid (pr (zs.take (k + 1)) = pr (zs.take k) * nth zs k) := e1
        rw [e1] at hb1
        clear e1
        go_wp2
        go_round
        case rel => exact ⟨k + 1, by omega, by go_num, by rw [HS.out]⟩
        case measure => simp [intOf]; omega
      · obtain rfl : k = n := by omega
        go_wp2
        go_ret2
        have hl := HL.out
        exact ⟨ret_two (by rw [sizeF_ok H0.out, ← hl, List.take_length]) H0.out.symm, rfl⟩
  · have h0' : (mayF zs != 0) = true := by simpa using h0
    have H0 : Hid (mayF zs ≠ 0) := h0
    clear h0
    go_enter Try.func21, Try.ntmps21
    go_wp2_with (go_at_call 23; refine hm.mono ?_; rintro e w' ⟨rfl, rfl⟩)
    go_ret2
    exact ⟨ret_two (sizeF_no H0.out).symm rfl, rfl⟩

end Go.Proofs.Ytlajainnpnbcaaa
