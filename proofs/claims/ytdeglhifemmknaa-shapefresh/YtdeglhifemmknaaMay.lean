
/- Contracts of package shape's May, and of the document's own May and Count. -/

import Derived.Test.YtdeglhifemmknaaProg

import Derived.Test.YtdeglhifemmknaaBase

namespace Go.Proofs.Ytdeglhifemmknaa

open Go.RowKit

set_option linter.unusedVariables false

theorem quo_gt {p z : Int} (hp : 1 ≤ p) (hz : 0 ≤ z) : 4096 / p < z ↔ 4096 < p * z := by
  rw [Int.mul_comm, ← Int.ediv_lt_iff_lt_mul (by omega)]

set_option maxHeartbeats 1000000 in
theorem may_any (ao : Option Addr) (n cap : Nat) (zs : List Int) (w : World) (h : Rd w ao n zs) :
    Calls Try.prog 18 #[.slice ao n cap] w fun e w' => e = .returned (.int .i64 (mayF zs)) ∧ w' = w := by
  have hroom := h.room
  have HL : Hid (zs.length = n) := h.len
  go_enter Try.func18, Try.ntmps18
  go_wp2
  go_loop [10] (fun i => ∃ k : Nat, k ≤ n ∧ i = .int .i64 (k : Nat) ∧ ∀ j, j < k → 0 ≤ nth zs j) (fun i => n - (intOf i).toNat)
  case atStart => exact ⟨0, Nat.zero_le _, rfl, fun j hj => by omega⟩
  case round =>
    obtain ⟨k, hk, rfl, hz⟩ := hrel
    by_cases hlt : k < n
    · obtain ⟨b, off, rfl, hb, hc⟩ := h.cells (by omega)
      have hc' := hc k hlt
      have hnum := h.num k hlt
      by_cases hneg : nth zs k < 0
      · go_wp2
        go_ret
        exact ⟨ret_int (mayF_neg (by have := HL.out; omega) hneg).symm, rfl⟩
      · have hge : 0 ≤ nth zs k := by omega
        go_wp2
        go_round
        case rel => exact ⟨k + 1, by omega, by go_num, fun j hj => by by_cases e : j = k; (· subst e; exact hge); exact hz j (by omega)⟩
        case measure => simp [intOf]; omega
    · obtain rfl : k = n := by omega
      have hall : ∀ j, j < zs.length → 0 ≤ nth zs j := fun j hj => hz j (by have := HL.out; omega)
      by_cases h8 : 8 < k
      · go_wp2
        go_ret
        exact ⟨ret_int (mayF_long hall (by have := HL.out; omega)).symm, rfl⟩
      · go_wp2
        go_loop [5, 22] (fun p i => ∃ m : Nat, m ≤ k ∧ i = .int .i64 (m : Nat) ∧ p = .int .i64 (pz (zs.take m)) ∧ pz (zs.take m) ≤ 4096) (fun _ i => k - (intOf i).toNat)
        case atStart => exact ⟨0, Nat.zero_le _, rfl, rfl, by simp [pz]⟩
        case round =>
          obtain ⟨m, hm, rfl, rfl, hle⟩ := hrel
          have hp1 : 1 ≤ pz (zs.take m) := pz_pos m (by have := HL.out; omega) (fun j hj => hz j (by omega))
          by_cases hlt : m < k
          · obtain ⟨b, off, rfl, hb, hc⟩ := h.cells (by omega)
            have hc' := hc m hlt
            have hnum := h.num m hlt
            have hge := hz m hlt
            have HS : Hid (pz (zs.take (m + 1)) = if nth zs m = 0 then pz (zs.take m) else pz (zs.take m) * nth zs m) := by
              have := HL.out
              show _ = _
              rw [take_nth (by omega), pz_snoc]
            have HT : Hid (zs.length = k) := HL
            clear hc h hz
            generalize pz (zs.take m) = p at *
            generalize hx : nth zs m = x at *
            by_cases h0 : x = 0
            · subst h0
              go_wp2
              go_round
              case rel => exact ⟨m + 1, by omega, by go_num, by rw [HS.out, if_pos rfl], by rw [HS.out, if_pos rfl]; exact hle⟩
              case measure => simp [intOf]; omega
            · have h0' : (x == 0) = false := by simpa using h0
              by_cases hbig : 4096 < p * x
              · have hq : 4096 / p < x := (quo_gt hp1 hge).2 hbig
                go_wp2
                go_ret
                exact ⟨ret_int (mayF_great (m := m + 1) hall (by have := HT.out; omega) (by rw [HS.out, if_neg h0]; exact hbig)).symm, rfl⟩
              · have hq : ¬ 4096 / p < x := fun hc => hbig ((quo_gt hp1 hge).1 hc)
                have hmul0 : 0 ≤ p * x := Int.mul_nonneg (by omega) hge
                have hmul1 : p * x ≤ 4096 := by omega
                go_wp2
                go_round
                case rel => exact ⟨m + 1, by omega, by go_num, by rw [HS.out, if_neg h0], by rw [HS.out, if_neg h0]; exact hmul1⟩
                case measure => simp [intOf]; omega
          · obtain rfl : m = k := by omega
            go_wp2
            go_ret
            have hl := HL.out
            exact ⟨ret_int (mayF_ok hall (by omega) (by rw [← hl, List.take_length] at hle; exact hle)).symm, rfl⟩
end Go.Proofs.Ytdeglhifemmknaa
