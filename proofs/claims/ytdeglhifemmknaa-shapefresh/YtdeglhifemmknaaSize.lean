
/- Contracts of package shape's Size and Place, and of the document's own May, Count, Size and Place. -/

import Derived.Test.YtdeglhifemmknaaMay

import Derived.Test.YtdeglhifemmknaaMath

namespace Go.Proofs.Ytdeglhifemmknaa

open Go.RowKit

set_option linter.unusedVariables false

set_option maxHeartbeats 1000000 in
theorem size_any (ao : Option Addr) (n cap : Nat) (zs : List Int) (w : World) (h : Rd w ao n zs) :
    Calls Try.prog 12 #[.slice ao n cap] w fun e w' => e = .returned (.tuple #[.int .i64 (sizeF zs), .int .i64 (mayF zs)]) ∧ w' = w := by
  have hroom := h.room
  have HL : Hid (zs.length = n) := h.len
  have hm := may_any ao n cap zs w h
  by_cases h0 : mayF zs = 0
  · rw [h0] at hm
    have H0 : Hid (mayF zs = 0) := h0
    clear h0
    go_enter Try.func12, Try.ntmps12
    go_wp2_with (go_at_call 18; refine hm.mono ?_; rintro e w' ⟨rfl, rfl⟩)
    go_loop [5, 15] (fun p i => ∃ k : Nat, k ≤ n ∧ i = .int .i64 (k : Nat) ∧ p = .int .i64 (pr (zs.take k))) (fun _ i => n - (intOf i).toNat)
    case atStart => exact ⟨0, Nat.zero_le _, rfl, rfl⟩
    case round =>
      obtain ⟨k, hk, rfl, rfl⟩ := hrel
      by_cases hlt : k < n
      · obtain ⟨b, off, rfl, hb, hc⟩ := h.cells (by omega)
        have hc' := hc k hlt
        have hnum := h.num k hlt
        have hb1 := pr_small H0.out (k + 1) (by have := HL.out; omega)
        have e1 : pr (zs.take (k + 1)) = pr (zs.take k) * nth zs k := by rw [take_nth (by have := HL.out; omega), pr_snoc]
        have HS : Hid (pr (zs.take (k + 1)) = pr (zs.take k) * nth zs k) := e1
        rw [e1] at hb1
        clear e1
        go_wp2
        go_round
        case rel => exact ⟨k + 1, by omega, by go_num, by rw [HS.out]⟩
        case measure => simp [intOf]; omega
      · obtain rfl : k = n := by omega
        go_wp2
        go_ret2
        have hl := HL.out
        exact ⟨ret_two (by rw [sizeF_ok H0.out, ← hl, List.take_length]) H0.out.symm, rfl⟩
  · have h0' : (mayF zs != 0) = true := by simpa using h0
    have H0 : Hid (mayF zs ≠ 0) := h0
    clear h0
    go_enter Try.func12, Try.ntmps12
    go_wp2_with (go_at_call 18; refine hm.mono ?_; rintro e w' ⟨rfl, rfl⟩)
    go_ret2
    exact ⟨ret_two (sizeF_no H0.out).symm rfl, rfl⟩

set_option maxHeartbeats 2000000 in
theorem place_any (ao bo : Option Addr) (n m cap cap' : Nat) (zs ys : List Int) (w : World) (h : Rd w ao n zs) (g : Rd w bo m ys) :
    Calls Try.prog 13 #[.slice ao n cap, .slice bo m cap'] w fun e w' => e = .returned (.tuple #[.int .i64 (placeN zs ys), .int .i64 (placeE zs ys)]) ∧ w' = w := by
  have hroom := h.room
  have groom := g.room
  have HL : Hid (zs.length = n) := h.len
  have GL : Hid (ys.length = m) := g.len
  have hm := may_any ao n cap zs w h
  by_cases h0 : mayF zs = 0
  · rw [h0] at hm
    have H0 : Hid (mayF zs = 0) := h0
    clear h0
    by_cases hnm : m = n
    · subst hnm
      go_enter Try.func13, Try.ntmps13
      go_wp2_with (go_at_call 18; refine hm.mono ?_; rintro e w' ⟨rfl, rfl⟩)
      clear hm
      go_loop [7, 22] (fun p i => ∃ k : Nat, k ≤ m ∧ i = .int .i64 (k : Nat) ∧ p = .int .i64 (plc zs ys k) ∧ idx zs ys k) (fun _ i => m - (intOf i).toNat)
      case atStart => exact ⟨0, Nat.zero_le _, rfl, rfl, fun j hj => by omega⟩
      case round =>
        obtain ⟨k, hk, rfl, rfl, hi⟩ := hrel
        by_cases hlt : k < m
        · obtain ⟨b, off, rfl, hb, hc⟩ := h.cells (by omega)
          obtain ⟨b2, off2, rfl, hb2, hc2⟩ := g.cells (by omega)
          have c1 := hc k hlt
          have c2 := hc2 k hlt
          have n1 := h.num k hlt
          have n2 := g.num k hlt
          have HI : Hid (idx zs ys k) := hi
          clear hc hc2 h g hi
          by_cases hneg : nth ys k < 0
          · go_wp2
            go_ret2
            have := place_out (k := k) H0.out (by have := HL.out; have := GL.out; omega) (by have := HL.out; omega) (by omega : ¬ (0 ≤ nth ys k ∧ nth ys k < nth zs k))
            exact ⟨ret_two this.2.symm this.1.symm, rfl⟩
          · by_cases hbig : nth zs k ≤ nth ys k
            · go_wp2
              go_ret2
              have := place_out (k := k) H0.out (by have := HL.out; have := GL.out; omega) (by have := HL.out; omega) (by omega : ¬ (0 ≤ nth ys k ∧ nth ys k < nth zs k))
              exact ⟨ret_two this.2.symm this.1.symm, rfl⟩
            · have HI2 : Hid (idx zs ys (k + 1)) := fun j hj => by
                by_cases e : j = k
                · subst e; exact ⟨by omega, by omega⟩
                · exact HI.out j (by omega)
              have hl := HL.out
              have bd := plc_bd (zs := zs) (ys := ys) (k + 1) (by omega) HI2.out
              have sm := pr_small H0.out (k + 1) (by omega)
              have b0 := plc_bd (zs := zs) (ys := ys) k (by omega) HI.out
              simp only [plc] at bd
              have hm0 : 0 ≤ plc zs ys k * nth zs k := Int.mul_nonneg b0.1 (by omega)
              have hm1 : plc zs ys k * nth zs k ≤ 4096 := by omega
              have hm2 : plc zs ys k * nth zs k + nth ys k ≤ 4096 := by omega
              have HL2 : Hid (zs.length = m) := hl
              clear bd sm b0 hl
              go_wp2
              go_round
              case rel => exact ⟨k + 1, by omega, by go_num, by simp only [plc], HI2.out⟩
              case measure => simp [intOf]; omega
        · obtain rfl : k = m := by omega
          have HI : Hid (idx zs ys k) := hi
          clear hi
          go_wp2
          go_ret2
          have hl := HL.out
          have := place_in (zs := zs) (ys := ys) H0.out (by have := GL.out; omega) (by rw [hl]; exact HI.out)
          exact ⟨ret_two (by rw [this.2, hl]) this.1.symm, rfl⟩
    · have hnm' : ((m : Int) != (n : Int)) = true := by simp; omega
      have HN : Hid (m ≠ n) := hnm
      go_enter Try.func13, Try.ntmps13
      go_wp2_with (go_at_call 18; refine hm.mono ?_; rintro e w' ⟨rfl, rfl⟩)
      go_ret2
      have := place_rank (ys := ys) H0.out (by have := HL.out; have := GL.out; have := HN.out; omega)
      exact ⟨ret_two this.2.symm this.1.symm, rfl⟩
  · have h0' : (mayF zs != 0) = true := by simpa using h0
    have H0 : Hid (mayF zs ≠ 0) := h0
    clear h0
    go_enter Try.func13, Try.ntmps13
    go_wp2_with (go_at_call 18; refine hm.mono ?_; rintro e w' ⟨rfl, rfl⟩)
    go_ret2
    have := place_may (ys := ys) H0.out
    exact ⟨ret_two this.2.symm this.1.symm, rfl⟩
end Go.Proofs.Ytdeglhifemmknaa
