
/- Contracts of the document's own May, Count, Size, Place and Rank. -/

import Derived.Test.YtndjlbedfccnjaaSize

import Derived.Test.YtndjlbedfccnjaaCopy

namespace Go.Proofs.Ytndjlbedfccnjaa

open Go.RowKit

set_option linter.unusedVariables false

theorem ediv_zero_iff {p : Int} (hp : 1 ≤ p) : 4096 / p = 0 ↔ 4096 < p := by
  constructor
  · intro h
    by_cases c : 4096 < p
    · exact c
    · have : 1 ≤ 4096 / p := (Int.le_ediv_iff_mul_le (by omega)).2 (by omega)
      omega
  · intro h; exact Int.ediv_eq_zero_of_lt (by omega) h

set_option maxHeartbeats 2000000 in
theorem refMay_any (ao : Option Addr) (n cap : Nat) (zs : List Int) (w : World) (h : Rd w ao n zs) :
    Calls Try.prog 20 #[.slice ao n cap] w fun e w' => e = .returned (.int .i64 (mayF zs)) ∧ w' = w := by
  have hroom := h.room
  have HL : Hid (zs.length = n) := h.len
  go_enter Try.func20, Try.ntmps20
  go_wp2
  go_loop [3] (fun i => ∃ k : Nat, k ≤ n ∧ i = .int .i64 (k : Nat) ∧ ∀ j, j < k → 0 ≤ nth zs j) (fun i => n - (intOf i).toNat)
  case atStart => exact ⟨0, Nat.zero_le _, rfl, fun j hj => by omega⟩
  case round =>
    obtain ⟨k, hk, rfl, hz⟩ := hrel
    by_cases hlt : k < n
    · obtain ⟨b, off, rfl, hb, hc⟩ := h.cells (by omega)
      have hc' := hc k hlt
      have hnum := h.num k hlt
      by_cases hneg : nth zs k < 0
      · go_wp2
        go_ret
        exact ⟨ret_int (mayF_neg (by have := HL.out; omega) hneg).symm, rfl⟩
      · have hge : 0 ≤ nth zs k := by omega
        go_wp2
        go_round
        case rel => exact ⟨k + 1, by omega, by go_num, fun j hj => by by_cases e : j = k; (· subst e; exact hge); exact hz j (by omega)⟩
        case measure => simp [intOf]; omega
    · obtain rfl : k = n := by omega
      have hall : ∀ j, j < zs.length → 0 ≤ nth zs j := fun j hj => hz j (by have := HL.out; omega)
      by_cases h8 : 8 < k
      · go_wp2
        go_ret
        exact ⟨ret_int (mayF_long hall (by have := HL.out; omega)).symm, rfl⟩
      · go_wp2
        go_loop [4, 5] (fun p i => ∃ m : Nat, m ≤ k ∧ i = .int .i64 (m : Nat) ∧ p = .int .i64 (4096 / pz (zs.take m)) ∧ pz (zs.take m) ≤ 4096) (fun _ i => k - (intOf i).toNat)
        case atStart => exact ⟨0, Nat.zero_le _, rfl, by simp [pz], by simp [pz]⟩
        case round =>
          obtain ⟨m, hm, rfl, rfl, hle⟩ := hrel
          have hp1 : 1 ≤ pz (zs.take m) := pz_pos m (by have := HL.out; omega) (fun j hj => hz j (by omega))
          by_cases hlt : m < k
          · obtain ⟨b, off, rfl, hb, hc⟩ := h.cells (by omega)
            have hc' := hc m hlt
            have hnum := h.num m hlt
            have hge := hz m hlt
            have HS : Hid (pz (zs.take (m + 1)) = if nth zs m = 0 then pz (zs.take m) else pz (zs.take m) * nth zs m) := by
              have := HL.out
              show _ = _
              rw [take_nth (by omega), pz_snoc]
            have HT : Hid (zs.length = k) := HL
            clear hc h hz
            generalize pz (zs.take m) = p at *
            generalize hx : nth zs m = x at *
            have hl1 : 1 ≤ 4096 / p := (Int.le_ediv_iff_mul_le (by omega)).2 (by omega)
            have hl2 : 4096 / p ≤ 4096 := Int.ediv_le_self _ (by omega)
            generalize hq : 4096 / p = l at *
            have HQ : Hid (4096 / p = l) := hq
            clear hq
            by_cases h0 : x = 0
            · subst h0
              have hl0 : (l == 0) = false := by simp; omega
              go_wp2
              go_round
              case rel => exact ⟨m + 1, by omega, by go_num, by rw [HS.out, if_pos rfl, HQ.out], by rw [HS.out, if_pos rfl]; exact hle⟩
              case measure => simp [intOf]; omega
            · have hpos : 0 < x := by omega
              have hpx : 1 ≤ p * x := by have := Int.mul_le_mul hp1 (show 1 ≤ x by omega) (by omega) (by omega); omega
              have HD : Hid (l / x = 4096 / (p * x)) := by
                show _ = _
                rw [← HQ.out, Int.ediv_ediv_of_nonneg (by omega)]
              have hz1 := ediv_zero_iff hpx
              rw [← HD.out] at hz1
              have hd0 : 0 ≤ l / x := Int.ediv_nonneg (by omega) (by omega)
              have hd1 : l / x ≤ 4096 := Int.le_trans (Int.ediv_le_self _ (by omega)) hl2
              by_cases hbig : 4096 < p * x
              · have hq0 : (l / x == 0) = true := by simpa using hz1.2 hbig
                clear hz1
                go_wp2
                go_ret
                exact ⟨ret_int (mayF_great (m := m + 1) hall (by have := HT.out; omega) (by rw [HS.out, if_neg h0]; exact hbig)).symm, rfl⟩
              · have hq0 : (l / x == 0) = false := by
                  rw [beq_eq_false_iff_ne]; exact fun e => hbig (hz1.1 e)
                clear hz1
                go_wp2
                go_round
                case rel => exact ⟨m + 1, by omega, by go_num, by rw [HS.out, if_neg h0, HD.out], by rw [HS.out, if_neg h0]; omega⟩
                case measure => simp [intOf]; omega
          · obtain rfl : m = k := by omega
            go_wp2
            go_ret
            have hl := HL.out
            exact ⟨ret_int (mayF_ok hall (by omega) (by rw [← hl, List.take_length] at hle; exact hle)).symm, rfl⟩

set_option maxHeartbeats 1000000 in
theorem refCount_any (ao : Option Addr) (n cap : Nat) (zs : List Int) (w : World) (h : Rd w ao n zs) (h0 : mayF zs = 0) :
    Calls Try.prog 34 #[.slice ao n cap] w fun e w' => e = .returned (.int .i64 (pr zs)) ∧ w' = w := by
  have hroom := h.room
  have HL : Hid (zs.length = n) := h.len
  have H0 : Hid (mayF zs = 0) := h0
  clear h0
  go_enter Try.func34, Try.ntmps34
  go_wp2
  go_loop [3, 4] (fun p i => ∃ k : Nat, k ≤ n ∧ i = .int .i64 (k : Nat) ∧ p = .int .i64 (pr (zs.take k))) (fun _ i => n - (intOf i).toNat)
  case atStart => exact ⟨0, Nat.zero_le _, rfl, rfl⟩
  case round =>
    obtain ⟨k, hk, rfl, rfl⟩ := hrel
    by_cases hlt : k < n
    · obtain ⟨b, off, rfl, hb, hc⟩ := h.cells (by omega)
      have hc' := hc k hlt
      have hnum := h.num k hlt
      have hb1 := pr_small H0.out (k + 1) (by have := HL.out; omega)
      have e1 : pr (zs.take (k + 1)) = pr (zs.take k) * nth zs k := by rw [take_nth (by have := HL.out; omega), pr_snoc]
      have HS : Hid (pr (zs.take (k + 1)) = pr (zs.take k) * nth zs k) := e1
      rw [e1] at hb1
      clear e1
      go_wp2
      go_round
      case rel => exact ⟨k + 1, by omega, by go_num, by rw [HS.out]⟩
      case measure => simp [intOf]; omega
    · obtain rfl : k = n := by omega
      go_wp2
      go_ret
      have hl := HL.out
      exact ⟨ret_int (by rw [← hl, List.take_length]), rfl⟩

theorem refSize_any (ao : Option Addr) (n cap : Nat) (zs : List Int) (w : World) (h : Rd w ao n zs) :
    Calls Try.prog 21 #[.slice ao n cap] w fun e w' => e = .returned (.tuple #[.int .i64 (sizeF zs), .int .i64 (mayF zs)]) ∧ w' = w := by
  have hm := refMay_any ao n cap zs w h
  by_cases h0 : mayF zs = 0
  · have hc := refCount_any ao n cap zs w h h0
    rw [h0] at hm
    have H0 : Hid (mayF zs = 0) := h0
    clear h0
    go_enter Try.func21, Try.ntmps21
    go_wp2_with (first | (go_at_call 20; refine hm.mono ?_; rintro e w' ⟨rfl, rfl⟩) | (go_at_call 34; refine hc.mono ?_; rintro e w' ⟨rfl, rfl⟩))
    go_ret2
    exact ⟨ret_two (sizeF_ok H0.out).symm H0.out.symm, rfl⟩
  · have h0' : (mayF zs != 0) = true := by simpa using h0
    have H0 : Hid (mayF zs ≠ 0) := h0
    clear h0
    go_enter Try.func21, Try.ntmps21
    go_wp2_with (go_at_call 20; refine hm.mono ?_; rintro e w' ⟨rfl, rfl⟩)
    go_ret2
    exact ⟨ret_two (sizeF_no H0.out).symm rfl, rfl⟩

set_option maxHeartbeats 4000000 in
theorem refPlace_any (ao bo : Option Addr) (n m cap cap' : Nat) (zs ys : List Int) (w : World) (h : Rd w ao n zs) (g : Rd w bo m ys) :
    Calls Try.prog 22 #[.slice ao n cap, .slice bo m cap'] w fun e w' => e = .returned (.tuple #[.int .i64 (placeN zs ys), .int .i64 (placeE zs ys)]) ∧ ∃ q, w' = w.drewN q := by
  have hroom := h.room
  have groom := g.room
  have HL : Hid (zs.length = n) := h.len
  have GL : Hid (ys.length = m) := g.len
  have hm := refMay_any ao n cap zs w h
  by_cases h0 : mayF zs = 0
  · rw [h0] at hm
    have H0 : Hid (mayF zs = 0) := h0
    clear h0
    by_cases hnm : m = n
    · subst hnm
      go_enter Try.func22, Try.ntmps22
      go_wp2_with (go_at_call 20; refine hm.mono ?_; rintro e w' ⟨rfl, hw⟩; subst hw)
      clear hm
      go_loopw [7, 8] (fun p i wr => ∃ k : Nat, k ≤ m ∧ i = .int .i64 (k : Nat) ∧ p = .int .i64 (plc zs ys k) ∧ idx zs ys k ∧ ∃ q, wr = w'.drewN q) (fun _ i _ => m - (intOf i).toNat)
      case atStart => exact ⟨0, Nat.zero_le _, rfl, rfl, fun j hj => by omega, 0, rfl⟩
      case round =>
        obtain ⟨k, hk, rfl, rfl, hi, q, rfl⟩ := hrel
        by_cases hlt : k < m
        · obtain ⟨b, off, rfl, hb, hc⟩ := h.cells (by omega)
          obtain ⟨b2, off2, rfl, hb2, hc2⟩ := g.cells (by omega)
          have c1 := hc k hlt
          have c2 := hc2 k hlt
          have n1 := h.num k hlt
          have n2 := g.num k hlt
          have HI : Hid (idx zs ys k) := hi
          clear hc hc2 h g hi
          by_cases hneg : nth ys k < 0
          · have hg1 : decide (nth ys k < 0) = true := by simpa using hneg
            go_wp2
            go_quiet (fail)
            go_wp2
            go_ret2
            have := place_out (k := k) H0.out (by have := HL.out; have := GL.out; omega) (by have := HL.out; omega) (by omega : ¬ (0 ≤ nth ys k ∧ nth ys k < nth zs k))
            exact ⟨ret_two this.2.symm this.1.symm, q + nq, by simp⟩
          · have hg1 : decide (nth ys k < 0) = false := by simpa using hneg
            by_cases hbig : nth zs k ≤ nth ys k
            · go_wp2
              go_quiet (fail)
              go_wp2
              go_ret2
              have := place_out (k := k) H0.out (by have := HL.out; have := GL.out; omega) (by have := HL.out; omega) (by omega : ¬ (0 ≤ nth ys k ∧ nth ys k < nth zs k))
              exact ⟨ret_two this.2.symm this.1.symm, q + nq, by simp⟩
            · have HI2 : Hid (idx zs ys (k + 1)) := fun j hj => by
                by_cases e : j = k
                · subst e; exact ⟨by omega, by omega⟩
                · exact HI.out j (by omega)
              have hl := HL.out
              have bd := plc_bd (zs := zs) (ys := ys) (k + 1) (by omega) HI2.out
              have sm := pr_small H0.out (k + 1) (by omega)
              have b0 := plc_bd (zs := zs) (ys := ys) k (by omega) HI.out
              simp only [plc] at bd
              have hm0 : 0 ≤ plc zs ys k * nth zs k := Int.mul_nonneg b0.1 (by omega)
              have hm1 : plc zs ys k * nth zs k ≤ 4096 := by omega
              have hm2 : plc zs ys k * nth zs k + nth ys k ≤ 4096 := by omega
              have HL2 : Hid (zs.length = m) := hl
              clear bd sm b0 hl
              go_wp2
              go_quiet (fail)
              go_wp2
              go_quiet (fail)
              go_wp2
              go_roundw
              case rel => exact ⟨k + 1, by omega, by go_num, by simp only [plc], HI2.out, _, rfl⟩
              case measure => simp [intOf]; omega
        · obtain rfl : k = m := by omega
          have HI : Hid (idx zs ys k) := hi
          clear hi
          go_wp2
          go_ret2
          have hl := HL.out
          have := place_in (zs := zs) (ys := ys) H0.out (by have := GL.out; omega) (by rw [hl]; exact HI.out)
          exact ⟨ret_two (by rw [this.2, hl]) this.1.symm, q, rfl⟩
    · have hnm' : ((m : Int) != (n : Int)) = true := by simp; omega
      have HN : Hid (m ≠ n) := hnm
      go_enter Try.func22, Try.ntmps22
      go_wp2_with (go_at_call 20; refine hm.mono ?_; rintro e w' ⟨rfl, hw⟩; subst hw)
      go_ret2
      have := place_rank (ys := ys) H0.out (by have := HL.out; have := GL.out; have := HN.out; omega)
      exact ⟨ret_two this.2.symm this.1.symm, 0, rfl⟩
  · have h0' : (mayF zs != 0) = true := by simpa using h0
    have H0 : Hid (mayF zs ≠ 0) := h0
    clear h0
    go_enter Try.func22, Try.ntmps22
    go_wp2_with (go_at_call 20; refine hm.mono ?_; rintro e w' ⟨rfl, hw⟩; subst hw)
    go_ret2
    have := place_may (ys := ys) H0.out
    exact ⟨ret_two this.2.symm this.1.symm, 0, rfl⟩

theorem refRank_any (k : Nat) (r : Int) (w : World) (hk : k * 8 ≤ 140737488351232) (h1 : -9223372036854775808 ≤ r) (h2 : r ≤ 9223372036854775807) :
    Calls Try.prog 38 #[.int .i64 (k : Nat), .int .i64 r] w fun e w' => e = .returned (.int .i64 (rankF k r : Nat)) ∧ w' = w := by
  go_enter Try.func38, Try.ntmps38
  go_wp2
  all_goals (go_ret; exact ⟨ret_int (by unfold rankF; split <;> omega), rfl⟩)
end Go.Proofs.Ytndjlbedfccnjaa
