
/- Contracts: lists of numbers held against one another, by package slices. -/

import Derived.Test.YtlajainnpnbcaaaSplit2

import Derived.Test.YtlajainnpnbcaaaCmp

import Derived.Test.YtlajainnpnbcaaaSize

namespace Go.Proofs.Ytlajainnpnbcaaa

open Go.RowKit

set_option linter.unusedVariables false

set_option maxHeartbeats 1000000 in
theorem slicesEqual8_any (ao bo : Option Addr) (n m cap cap' : Nat) (zs ys : List Int) (w : World) (h : Rd w ao n zs) (g : Rd w bo m ys) :
    Calls Try.prog 68 #[.slice ao n cap, .slice bo m cap'] w fun e w' => e = .returned (.bool (eqB zs ys)) ∧ ∃ q, w' = w.drewN q := by
  have hroom := h.room
  have groom := g.room
  have HL : Hid (zs.length = n) := h.len
  have GL : Hid (ys.length = m) := g.len
  by_cases hnm : n = m
  · subst hnm
    go_enter Try.func68, Try.ntmps68
    go_wp2
    go_loopw [13] (fun i wr => ∃ k : Nat, k ≤ n ∧ i = .int .i64 (k : Nat) ∧ (∀ j, j < k → nth zs j = nth ys j) ∧ ∃ q, wr = w.drewN q) (fun i _ => n - (intOf i).toNat)
    case atStart => exact ⟨0, Nat.zero_le _, rfl, fun j hj => by omega, 0, rfl⟩
    case round =>
      obtain ⟨k, hk, rfl, hz, q, rfl⟩ := hrel
      by_cases hlt : k < n
      · obtain ⟨b, off, rfl, hb, hc⟩ := h.cells (by omega)
        obtain ⟨b2, off2, rfl, hb2, hc2⟩ := g.cells (by omega)
        have c1 := hc k hlt
        have c2 := hc2 k hlt
        have HZ : Hid (∀ j, j < k → nth zs j = nth ys j) := hz
        clear hc hc2 hz h g
        by_cases he : nth zs k = nth ys k
        · have HE : Hid (nth zs k = nth ys k) := he
          have hne : (nth zs k != nth ys k) = false := by simpa using he
          clear he
          go_wp2
          go_quiet (fail)
          go_wp2
          go_roundw
          case rel => exact ⟨k + 1, by omega, by go_num, fun j hj => by by_cases e : j = k; (· subst e; exact HE.out); exact HZ.out j (by omega), _, rfl⟩
          case measure => simp [intOf]; omega
        · have hne : (nth zs k != nth ys k) = true := by simpa using he
          have HE : Hid (nth zs k ≠ nth ys k) := he
          clear he
          go_wp2
          go_quiet (fail)
          go_wp2
          go_ret
          exact ⟨ret_bool (eqB_no (k := k) (by have := HL.out; omega) HE.out).symm, q + nq, by simp⟩
      · obtain rfl : k = n := by omega
        have HZ : Hid (∀ j, j < k → nth zs j = nth ys j) := hz
        clear hz h g
        go_wp2
        go_ret
        exact ⟨ret_bool (eqB_yes (by have := HL.out; have := GL.out; omega) (fun j hj => HZ.out j (by have := HL.out; omega))).symm, _, rfl⟩
  · have hnm' : ((n : Int) != (m : Int)) = true := by simp; omega
    go_enter Try.func68, Try.ntmps68
    go_wp2
    go_ret
    exact ⟨ret_bool (eqB_len (by have := HL.out; have := GL.out; omega)).symm, 0, rfl⟩

theorem isNaN_any (x : Int) (w : World) : Calls Try.prog 75 #[.int .i64 x] w fun e w' => e = .returned (.bool false) ∧ w' = w := by
  have h : (x != x) = false := by simp
  go_enter Try.func75, Try.ntmps75
  go_wp2
  go_ret
  exact ⟨rfl, rfl⟩

theorem cmp_any (x y : Int) (w : World) : Calls Try.prog 69 #[.int .i64 x, .int .i64 y] w fun e w' => e = .returned (.int .i64 (cmpI x y)) ∧ w' = w := by
  have hn := fun x w => isNaN_any x w
  by_cases h1 : x < y
  · rw [cmpI_lt h1]
    go_enter Try.func69, Try.ntmps69
    go_wp2_with (go_at_call 75; refine (hn _ _).mono ?_; rintro e w' ⟨rfl, hw⟩; rw [hw]; clear hw w')
    go_ret
    exact ⟨rfl, rfl⟩
  · by_cases h2 : y < x
    · rw [cmpI_gt h2]
      go_enter Try.func69, Try.ntmps69
      go_wp2_with (go_at_call 75; refine (hn _ _).mono ?_; rintro e w' ⟨rfl, hw⟩; rw [hw]; clear hw w')
      go_ret
      exact ⟨rfl, rfl⟩
    · have e : cmpI x y = 0 := cmpI_zero.2 (by omega)
      rw [e]
      clear e
      go_enter Try.func69, Try.ntmps69
      go_wp2_with (go_at_call 75; refine (hn _ _).mono ?_; rintro e w' ⟨rfl, hw⟩; rw [hw]; clear hw w')
      go_ret
      exact ⟨rfl, rfl⟩

set_option maxHeartbeats 2000000 in
theorem cmps_any (ao bo : Option Addr) (n m cap cap' : Nat) (zs ys : List Int) (w : World) (h : Rd w ao n zs) (g : Rd w bo m ys) :
    Calls Try.prog 70 #[.slice ao n cap, .slice bo m cap'] w fun e w' => e = .returned (.int .i64 (cmpL zs ys)) ∧ w' = w := by
  have hroom := h.room
  have groom := g.room
  have HL : Hid (zs.length = n) := h.len
  have GL : Hid (ys.length = m) := g.len
  have hcm := fun x y w => cmp_any x y w
  go_enter Try.func70, Try.ntmps70
  go_wp2
  go_loop [11] (fun i => ∃ k : Nat, k ≤ n ∧ k ≤ m ∧ i = .int .i64 (k : Nat) ∧ Hid (∀ j, j < k → nth zs j = nth ys j)) (fun i => n - (intOf i).toNat)
  case atStart => exact ⟨0, Nat.zero_le _, Nat.zero_le _, rfl, fun j hj => by omega⟩
  case round =>
    obtain ⟨k, hk, hk2, rfl, HZ⟩ := hrel
    by_cases hlt : k < n
    · obtain ⟨b, off, rfl, hb, hc⟩ := h.cells (by omega)
      have c1 := hc k hlt
      by_cases hlt2 : k < m
      · obtain ⟨b2, off2, rfl, hb2, hc2⟩ := g.cells (by omega)
        have c2 := hc2 k hlt2
        clear hc hc2 h g
        by_cases he : cmpI (nth zs k) (nth ys k) = 0
        · have he' : (cmpI (nth zs k) (nth ys k) != 0) = false := by simpa using he
          have HE : Hid (nth zs k = nth ys k) := cmpI_zero.1 he
          clear he
          go_wp2_with (go_at_call 69; refine (hcm _ _ _).mono ?_; rintro e w' ⟨rfl, hw⟩; rw [hw]; clear hw w')
          go_round
          case rel => exact ⟨k + 1, by omega, by omega, by go_num, fun j hj => by by_cases e : j = k; (· subst e; exact HE.out); exact HZ.out j (by omega)⟩
          case measure => simp [intOf]; omega
        · have he' : (cmpI (nth zs k) (nth ys k) != 0) = true := by simpa using he
          have HE : Hid (cmpI (nth zs k) (nth ys k) ≠ 0) := he
          clear he
          go_wp2_with (go_at_call 69; refine (hcm _ _ _).mono ?_; rintro e w' ⟨rfl, hw⟩; rw [hw]; clear hw w')
          go_ret
          exact ⟨ret_int (cmpL_part (k := k) (by have := HL.out; omega) (by have := GL.out; omega) HZ.out HE.out).symm, rfl⟩
      · obtain rfl : k = m := by omega
        clear hc h g
        go_wp2
        go_ret
        exact ⟨ret_int (cmpL_long (by have := HL.out; have := GL.out; omega) (by rw [GL.out]; exact HZ.out)).symm, rfl⟩
    · obtain rfl : k = n := by omega
      by_cases hlt2 : k < m
      · clear h g
        go_wp2
        go_ret
        exact ⟨ret_int (cmpL_short (by have := HL.out; have := GL.out; omega) (by rw [HL.out]; exact HZ.out)).symm, rfl⟩
      · obtain rfl : m = k := by omega
        clear h g
        go_wp2
        go_ret
        exact ⟨ret_int (cmpL_same (by have := HL.out; have := GL.out; omega) (by rw [HL.out]; exact HZ.out)).symm, rfl⟩

theorem isNaN8_any (x : Int) (w : World) : Calls Try.prog 80 #[.int .i64 x] w fun e w' => e = .returned (.bool false) ∧ w' = w := by
  have h : (x != x) = false := by simp
  go_enter Try.func80, Try.ntmps80
  go_wp2
  go_ret
  exact ⟨rfl, rfl⟩

theorem cmp8_any (x y : Int) (w : World) : Calls Try.prog 76 #[.int .i64 x, .int .i64 y] w fun e w' => e = .returned (.int .i64 (cmpI x y)) ∧ w' = w := by
  have hn := fun x w => isNaN8_any x w
  by_cases h1 : x < y
  · rw [cmpI_lt h1]
    go_enter Try.func76, Try.ntmps76
    go_wp2_with (go_at_call 80; refine (hn _ _).mono ?_; rintro e w' ⟨rfl, hw⟩; rw [hw]; clear hw w')
    go_ret
    exact ⟨rfl, rfl⟩
  · by_cases h2 : y < x
    · rw [cmpI_gt h2]
      go_enter Try.func76, Try.ntmps76
      go_wp2_with (go_at_call 80; refine (hn _ _).mono ?_; rintro e w' ⟨rfl, hw⟩; rw [hw]; clear hw w')
      go_ret
      exact ⟨rfl, rfl⟩
    · have e : cmpI x y = 0 := cmpI_zero.2 (by omega)
      rw [e]
      clear e
      go_enter Try.func76, Try.ntmps76
      go_wp2_with (go_at_call 80; refine (hn _ _).mono ?_; rintro e w' ⟨rfl, hw⟩; rw [hw]; clear hw w')
      go_ret
      exact ⟨rfl, rfl⟩

set_option maxHeartbeats 2000000 in
theorem cmps8_any (ao bo : Option Addr) (n m cap cap' : Nat) (zs ys : List Int) (w : World) (h : Rd w ao n zs) (g : Rd w bo m ys) :
    Calls Try.prog 71 #[.slice ao n cap, .slice bo m cap'] w fun e w' => e = .returned (.int .i64 (cmpL zs ys)) ∧ w' = w := by
  have hroom := h.room
  have groom := g.room
  have HL : Hid (zs.length = n) := h.len
  have GL : Hid (ys.length = m) := g.len
  have hcm := fun x y w => cmp8_any x y w
  go_enter Try.func71, Try.ntmps71
  go_wp2
  go_loop [11] (fun i => ∃ k : Nat, k ≤ n ∧ k ≤ m ∧ i = .int .i64 (k : Nat) ∧ Hid (∀ j, j < k → nth zs j = nth ys j)) (fun i => n - (intOf i).toNat)
  case atStart => exact ⟨0, Nat.zero_le _, Nat.zero_le _, rfl, fun j hj => by omega⟩
  case round =>
    obtain ⟨k, hk, hk2, rfl, HZ⟩ := hrel
    by_cases hlt : k < n
    · obtain ⟨b, off, rfl, hb, hc⟩ := h.cells (by omega)
      have c1 := hc k hlt
      by_cases hlt2 : k < m
      · obtain ⟨b2, off2, rfl, hb2, hc2⟩ := g.cells (by omega)
        have c2 := hc2 k hlt2
        clear hc hc2 h g
        by_cases he : cmpI (nth zs k) (nth ys k) = 0
        · have he' : (cmpI (nth zs k) (nth ys k) != 0) = false := by simpa using he
          have HE : Hid (nth zs k = nth ys k) := cmpI_zero.1 he
          clear he
          go_wp2_with (go_at_call 76; refine (hcm _ _ _).mono ?_; rintro e w' ⟨rfl, hw⟩; rw [hw]; clear hw w')
          go_round
          case rel => exact ⟨k + 1, by omega, by omega, by go_num, fun j hj => by by_cases e : j = k; (· subst e; exact HE.out); exact HZ.out j (by omega)⟩
          case measure => simp [intOf]; omega
        · have he' : (cmpI (nth zs k) (nth ys k) != 0) = true := by simpa using he
          have HE : Hid (cmpI (nth zs k) (nth ys k) ≠ 0) := he
          clear he
          go_wp2_with (go_at_call 76; refine (hcm _ _ _).mono ?_; rintro e w' ⟨rfl, hw⟩; rw [hw]; clear hw w')
          go_ret
          exact ⟨ret_int (cmpL_part (k := k) (by have := HL.out; omega) (by have := GL.out; omega) HZ.out HE.out).symm, rfl⟩
      · obtain rfl : k = m := by omega
        clear hc h g
        go_wp2
        go_ret
        exact ⟨ret_int (cmpL_long (by have := HL.out; have := GL.out; omega) (by rw [GL.out]; exact HZ.out)).symm, rfl⟩
    · obtain rfl : k = n := by omega
      by_cases hlt2 : k < m
      · clear h g
        go_wp2
        go_ret
        exact ⟨ret_int (cmpL_short (by have := HL.out; have := GL.out; omega) (by rw [HL.out]; exact HZ.out)).symm, rfl⟩
      · obtain rfl : m = k := by omega
        clear h g
        go_wp2
        go_ret
        exact ⟨ret_int (cmpL_same (by have := HL.out; have := GL.out; omega) (by rw [HL.out]; exact HZ.out)).symm, rfl⟩

end Go.Proofs.Ytlajainnpnbcaaa
