
/- Contracts of the document's own May, Count, Size, Place and Rank. -/

import Derived.Test.YtdeglhifemmknaaSize

import Derived.Test.YtdeglhifemmknaaCopy

namespace Go.Proofs.Ytdeglhifemmknaa

open Go.RowKit

set_option linter.unusedVariables false

theorem ediv_zero_iff {p : Int} (hp : 1 ≤ p) : 4096 / p = 0 ↔ 4096 < p := by
  constructor
  · intro h
    by_cases c : 4096 < p
    · exact c
    · have : 1 ≤ 4096 / p := (Int.le_ediv_iff_mul_le (by omega)).2 (by omega)
      omega
  · intro h; exact Int.ediv_eq_zero_of_lt (by omega) h

set_option maxHeartbeats 2000000 in
theorem refMay_any (ao : Option Addr) (n cap : Nat) (zs : List Int) (w : World) (h : Rd w ao n zs) :
    Calls Try.prog 31 #[.slice ao n cap] w fun e w' => e = .returned (.int .i64 (mayF zs)) ∧ w' = w := by
  have hroom := h.room
  have HL : Hid (zs.length = n) := h.len
  go_enter Try.func31, Try.ntmps31
  go_wp2
  go_loop [3] (fun i => ∃ k : Nat, k ≤ n ∧ i = .int .i64 (k : Nat) ∧ ∀ j, j < k → 0 ≤ nth zs j) (fun i => n - (intOf i).toNat)
  case atStart => exact ⟨0, Nat.zero_le _, rfl, fun j hj => by omega⟩
  case round =>
    obtain ⟨k, hk, rfl, hz⟩ := hrel
    by_cases hlt : k < n
    · obtain ⟨b, off, rfl, hb, hc⟩ := h.cells (by omega)
      have hc' := hc k hlt
      have hnum := h.num k hlt
      by_cases hneg : nth zs k < 0
      · go_wp2
        go_ret
        exact ⟨ret_int (mayF_neg (by have := HL.out; omega) hneg).symm, rfl⟩
      · have hge : 0 ≤ nth zs k := by omega
        go_wp2
        go_round
        case rel => exact ⟨k + 1, by omega, by go_num, fun j hj => by by_cases e : j = k; (· subst e; exact hge); exact hz j (by omega)⟩
        case measure => simp [intOf]; omega
    · obtain rfl : k = n := by omega
      have hall : ∀ j, j < zs.length → 0 ≤ nth zs j := fun j hj => hz j (by have := HL.out; omega)
      by_cases h8 : 8 < k
      · go_wp2
        go_ret
        exact ⟨ret_int (mayF_long hall (by have := HL.out; omega)).symm, rfl⟩
      · go_wp2
        go_loop [4, 5] (fun p i => ∃ m : Nat, m ≤ k ∧ i = .int .i64 (m : Nat) ∧ p = .int .i64 (4096 / pz (zs.take m)) ∧ pz (zs.take m) ≤ 4096) (fun _ i => k - (intOf i).toNat)
        case atStart => exact ⟨0, Nat.zero_le _, rfl, by simp [pz], by simp [pz]⟩
        case round =>
          obtain ⟨m, hm, rfl, rfl, hle⟩ := hrel
          have hp1 : 1 ≤ pz (zs.take m) := pz_pos m (by have := HL.out; omega) (fun j hj => hz j (by omega))
          by_cases hlt : m < k
          · obtain ⟨b, off, rfl, hb, hc⟩ := h.cells (by omega)
            have hc' := hc m hlt
            have hnum := h.num m hlt
            have hge := hz m hlt
            have HS : Hid (pz (zs.take (m + 1)) = if nth zs m = 0 then pz (zs.take m) else pz (zs.take m) * nth zs m) := by
              have := HL.out
              show _ = _
              rw [take_nth (by omega), pz_snoc]
            have HT : Hid (zs.length = k) := HL
            clear hc h hz
            generalize pz (zs.take m) = p at *
            generalize hx : nth zs m = x at *
            have hl1 : 1 ≤ 4096 / p := (Int.le_ediv_iff_mul_le (by omega)).2 (by omega)
            have hl2 : 4096 / p ≤ 4096 := Int.ediv_le_self _ (by omega)
            generalize hq : 4096 / p = l at *
            have HQ : Hid (4096 / p = l) := hq
            clear hq
            by_cases h0 : x = 0
            · subst h0
              have hl0 : (l == 0) = false := by simp; omega
              go_wp2
              go_round
              case rel => exact ⟨m + 1, by omega, by go_num, by rw [HS.out, if_pos rfl, HQ.out], by rw [HS.out, if_pos rfl]; exact hle⟩
              case measure => simp [intOf]; omega
            · have hpos : 0 < x := by omega
              have hpx : 1 ≤ p * x := by have := Int.mul_le_mul hp1 (show 1 ≤ x by omega) (by omega) (by omega); omega
              have HD : Hid (l / x = 4096 / (p * x)) := by
                show _ = _
                rw [← HQ.out, Int.ediv_ediv_of_nonneg (by omega)]
              have hz1 := ediv_zero_iff hpx
              rw [← HD.out] at hz1
              have hd0 : 0 ≤ l / x := Int.ediv_nonneg (by omega) (by omega)
              have hd1 : l / x ≤ 4096 := Int.le_trans (Int.ediv_le_self _ (by omega)) hl2
              by_cases hbig : 4096 < p * x
              · have hq0 : (l / x == 0) = true := by simpa using hz1.2 hbig
                clear hz1
                go_wp2
                go_ret
                exact ⟨ret_int (mayF_great (m := m + 1) hall (by have := HT.out; omega) (by rw [HS.out, if_neg h0]; exact hbig)).symm, rfl⟩
              · have hq0 : (l / x == 0) = false := by
                  rw [beq_eq_false_iff_ne]; exact fun e => hbig (hz1.1 e)
                clear hz1
                go_wp2
                go_round
                case rel => exact ⟨m + 1, by omega, by go_num, by rw [HS.out, if_neg h0, HD.out], by rw [HS.out, if_neg h0]; omega⟩
                case measure => simp [intOf]; omega
          · obtain rfl : m = k := by omega
            go_wp2
            go_ret
            have hl := HL.out
            exact ⟨ret_int (mayF_ok hall (by omega) (by rw [← hl, List.take_length] at hle; exact hle)).symm, rfl⟩

set_option maxHeartbeats 1000000 in
theorem refCount_any (ao : Option Addr) (n cap : Nat) (zs : List Int) (w : World) (h : Rd w ao n zs) (h0 : mayF zs = 0) :
    Calls Try.prog 32 #[.slice ao n cap] w fun e w' => e = .returned (.int .i64 (pr zs)) ∧ w' = w := by
  have hroom := h.room
  have HL : Hid (zs.length = n) := h.len
  have H0 : Hid (mayF zs = 0) := h0
  clear h0
  go_enter Try.func32, Try.ntmps32
  go_wp2
  go_loop [3, 4] (fun p i => ∃ k : Nat, k ≤ n ∧ i = .int .i64 (k : Nat) ∧ p = .int .i64 (pr (zs.take k))) (fun _ i => n - (intOf i).toNat)
  case atStart => exact ⟨0, Nat.zero_le _, rfl, rfl⟩
  case round =>
    obtain ⟨k, hk, rfl, rfl⟩ := hrel
    by_cases hlt : k < n
    · obtain ⟨b, off, rfl, hb, hc⟩ := h.cells (by omega)
      have hc' := hc k hlt
      have hnum := h.num k hlt
      have hb1 := pr_small H0.out (k + 1) (by have := HL.out; omega)
      have e1 : pr (zs.take (k + 1)) = pr (zs.take k) * nth zs k := by rw [take_nth (by have := HL.out; omega), pr_snoc]
      have HS : Hid (pr (zs.take (k + 1)) = pr (zs.take k) * nth zs k) := e1
      rw [e1] at hb1
      clear e1
      go_wp2
      go_round
      case rel => exact ⟨k + 1, by omega, by go_num, by rw [HS.out]⟩
      case measure => simp [intOf]; omega
    · obtain rfl : k = n := by omega
      go_wp2
      go_ret
      have hl := HL.out
      exact ⟨ret_int (by rw [← hl, List.take_length]), rfl⟩

theorem refRank_any (k : Nat) (r : Int) (w : World) (hk : k * 8 ≤ 140737488351232) (h1 : -9223372036854775808 ≤ r) (h2 : r ≤ 9223372036854775807) :
    Calls Try.prog 36 #[.int .i64 (k : Nat), .int .i64 r] w fun e w' => e = .returned (.int .i64 (rankF k r : Nat)) ∧ w' = w := by
  go_enter Try.func36, Try.ntmps36
  go_wp2
  all_goals (go_ret; exact ⟨ret_int (by unfold rankF; split <;> omega), rfl⟩)
end Go.Proofs.Ytdeglhifemmknaa
