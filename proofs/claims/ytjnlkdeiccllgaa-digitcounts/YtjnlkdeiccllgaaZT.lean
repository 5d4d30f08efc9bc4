
/- DigitCounts: the law itself. -/

import Derived.Test.YtjnlkdeiccllgaaZS
import Derived.Deep.Cut
import Derived.Deep.QuietTactic
import Derived.BigQuiet




namespace Go.Proofs.Ytjnlkdeiccllgaa

open Go.RowKit

set_option linter.unusedVariables false

set_option maxHeartbeats 8000000 in
set_option maxRecDepth 20000 in
theorem counts_long (ao : Option Addr) (n c : Nat) (zs : List Int) (z : Int) (w : World) (h : Rd w ao n zs) (hs : Sl ao n c) (z1 : -9223372036854775808 ≤ z) (z2 : z ≤ 9223372036854775807) (hn : 4096 < n) :
    Calls Try.prog 3 #[.slice ao n c, .int .i64 z] w fun e w' => e = .returned (.bool true) ∧ Below w.heap.size w w' := by
  have cG := begun8_any w
  have t1 : decide (4096 < n) = true := by simpa using hn
  have t2 : (4096 : Int) < (n : Int) := by omega
  go_enter Try.func3, Try.ntmps3
  go_wp2_with (go_at_call 7; (with_reducible refine cG.mono ?_); rintro e w1 ⟨rfl, k1⟩)
  go_ret
  exact ⟨rfl, k1⟩

set_option maxHeartbeats 8000000 in
set_option maxRecDepth 20000 in
theorem counts_neg (ao : Option Addr) (n c : Nat) (zs : List Int) (z : Int) (w : World) (h : Rd w ao n zs) (hs : Sl ao n c) (z1 : -9223372036854775808 ≤ z) (z2 : z ≤ 9223372036854775807) (hn : n ≤ 4096) (hneg : ∃ k, k < n ∧ nth zs k < 0) :
    Calls Try.prog 3 #[.slice ao n c, .int .i64 z] w fun e w' => e = .returned (.bool true) ∧ Below w.heap.size w w' := by
  have cG := begun8_any w
  have t1 : decide (4096 < n) = false := by simp; omega
  have t2 : ¬ (4096 : Int) < (n : Int) := by omega
  have HL : Hid (zs.length = n) := h.len
  have HT : Hid (zs.take n = zs) := by show _ = _; rw [List.take_of_length_le (by rw [HL.out]; exact Nat.le_refl _)]
  have HN : Hid (∃ k, k < n ∧ nth zs k < 0) := hneg
  clear hneg
  go_enter Try.func3, Try.ntmps3
  go_wp2_with (go_at_call 7; (with_reducible refine cG.mono ?_); rintro e w1 ⟨rfl, k1⟩)
  have X1 := h.below k1 (Nat.le_refl _)
  go_loopw [5, 6] (fun s i V => ∃ (k : Nat) (oo : Option Addr) (oc : Nat), k ≤ n ∧ i = .int .i64 (k : Nat) ∧ s = .slice oo k oc ∧ Ft 2 V w1.heap.size oo k oc (zs.take k) ∧ Below w1.heap.size w1 V ∧ ∀ j, j < k → 0 ≤ nth zs j) (fun _ i _ => n - (intOf i).toNat)
  case atStart => exact ⟨0, none, 0, Nat.zero_le _, rfl, rfl, Ft.nil _ _ _, Below.refl _ _, fun j hj => by omega⟩
  case round =>
    obtain ⟨k, oo, oc, hk, rfl, rfl, F, B, hall⟩ := hrel
    have sB := B.size
    by_cases hlt : k < n
    · have t5 : decide ((k : Int) < (n : Int)) = true := by simp; omega
      have bk : (k : Int) < (n : Int) := by omega
      obtain ⟨b, off, rfl, hb, hc⟩ := (X1.below B (Nat.le_refl _)).cells (by omega)
      have c1 := hc k hlt
      have hnum := h.num k hlt
      have HS : Hid (zs.take (k + 1) = zs.take k ++ [nth zs k]) := take_nth (by rw [HL.out]; exact hlt)
      clear hc
      have HA : Hid (∀ j, j < k → 0 ≤ nth zs j) := hall
      clear hall
      by_cases hx : nth zs k < 0
      · have t6 : decide (nth zs k < 0) = true := by simpa using hx
        generalize nth zs k = x at *
        go_wp2
        go_ret
        exact ⟨rfl, k1.trans (B.mono k1.size)⟩
      · have t6 : decide (nth zs k < 0) = false := by simp; omega
        generalize hxx : nth zs k = x at *
        have HX : Hid (nth zs k = x ∧ 0 ≤ x) := ⟨hxx, by omega⟩
        clear hxx hx
        go_wp2_with (at_builtin; refine wpList_joinT tyL rfl _ _ rfl w1.heap.size oo (some ⟨wr.heap.size, 0, none⟩) k oc 1 1 _ [x] rfl rfl (F.below (box_below wr _) (Nat.le_refl _)) (ft_new 2 wr [x] (by simp) (num1 hnum.1 hnum.2)).rd (ft_new 2 wr [x] (by simp) (num1 hnum.1 hnum.2)).sl (by omega) (by simp; omega) ?_; intro co3 c3 w3 f3 b3)
        go_roundw
        case rel => exact ⟨k + 1, co3, c3, by omega, by go_num, rfl, by rw [HS.out]; exact f3, B.trans (((box_below wr _).mono sB).trans b3), fun j hj => by rcases Nat.lt_succ_iff_lt_or_eq.1 hj with h | h; (· exact HA.out j h); rw [h, HX.out.1]; exact HX.out.2⟩
        case measure => simp [intOf]; omega
    · obtain rfl : k = n := by omega
      have t5 : decide ((k : Int) < (k : Int)) = false := by simp
      rw [HT.out] at F
      obtain ⟨q, q1, q2⟩ := HN.out
      exact absurd (hall q q1) (by omega)

set_option maxHeartbeats 8000000 in
set_option maxRecDepth 20000 in
theorem counts_big (ao : Option Addr) (n c : Nat) (zs : List Int) (z : Int) (w : World) (h : Rd w ao n zs) (hs : Sl ao n c) (z1 : -9223372036854775808 ≤ z) (z2 : z ≤ 9223372036854775807) (hn : n ≤ 4096) (hp : ∀ k, k < n → 0 ≤ nth zs k) (hF : mayF zs ≠ 0) :
    Calls Try.prog 3 #[.slice ao n c, .int .i64 z] w fun e w' => e = .returned (.bool true) ∧ Below w.heap.size w w' := by
  have cG := begun8_any w
  have t1 : decide (4096 < n) = false := by simp; omega
  have t2 : ¬ (4096 : Int) < (n : Int) := by omega
  have HL : Hid (zs.length = n) := h.len
  have HT : Hid (zs.take n = zs) := by show _ = _; rw [List.take_of_length_le (by rw [HL.out]; exact Nat.le_refl _)]
  have HP : Hid (∀ k, k < n → 0 ≤ nth zs k) := hp
  have h17 : mayF zs = 17 := (mayF_pos (fun k hk => hp k (by rw [← h.len]; exact hk))).resolve_left hF
  have cI : ∀ V o1 c1 o2 c2, Rd V (some o1) 1 [(n : Int)] → Rd V o2 n zs → Calls Try.prog 8 #[.int .i64 34, .agg #[.slice (some o1) 1 c1, .slice o2 n c2]] V fun e w' => AnsQ V (fun S A => S = [] ∧ A = []) 17 e w' := fun V o1 c1 o2 c2 h1 h2 => iota_list_bad (some o1) o2 c1 n c2 zs V h1 h2 hn hp hF
  have cZ : ∀ V, Rd V ao n zs → Calls Try.prog 10 #[.slice ao n c] V fun e w' => e = .returned (.tuple #[.int .i64 (sizeF zs), .int .i64 17]) ∧ w' = V := fun V hv => by have := size_any ao n c zs V hv; rw [h17] at this; exact this
  clear h17
  clear hp hF
  go_enter Try.func3, Try.ntmps3
  go_wp2_with (go_at_call 7; (with_reducible refine cG.mono ?_); rintro e w1 ⟨rfl, k1⟩)
  have X1 := h.below k1 (Nat.le_refl _)
  go_loopw [5, 6] (fun s i V => ∃ (k : Nat) (oo : Option Addr) (oc : Nat), k ≤ n ∧ i = .int .i64 (k : Nat) ∧ s = .slice oo k oc ∧ Ft 2 V w1.heap.size oo k oc (zs.take k) ∧ Below w1.heap.size w1 V) (fun _ i _ => n - (intOf i).toNat)
  case atStart => exact ⟨0, none, 0, Nat.zero_le _, rfl, rfl, Ft.nil _ _ _, Below.refl _ _⟩
  case round =>
    obtain ⟨k, oo, oc, hk, rfl, rfl, F, B⟩ := hrel
    have sB := B.size
    by_cases hlt : k < n
    · have t5 : decide ((k : Int) < (n : Int)) = true := by simp; omega
      have bk : (k : Int) < (n : Int) := by omega
      obtain ⟨b, off, rfl, hb, hc⟩ := (X1.below B (Nat.le_refl _)).cells (by omega)
      have c1 := hc k hlt
      have hnum := h.num k hlt
      have HS : Hid (zs.take (k + 1) = zs.take k ++ [nth zs k]) := take_nth (by rw [HL.out]; exact hlt)
      clear hc
      have t6 : decide (nth zs k < 0) = false := by have := HP.out k hlt; simp; omega
      generalize hx : nth zs k = x at *
      have HX : Hid (nth zs k = x) := hx
      clear hx
      go_wp2_with (at_builtin; refine wpList_joinT tyL rfl _ _ rfl w1.heap.size oo (some ⟨wr.heap.size, 0, none⟩) k oc 1 1 _ [x] rfl rfl (F.below (box_below wr _) (Nat.le_refl _)) (ft_new 2 wr [x] (by simp) (num1 hnum.1 hnum.2)).rd (ft_new 2 wr [x] (by simp) (num1 hnum.1 hnum.2)).sl (by omega) (by simp; omega) ?_; intro co3 c3 w3 f3 b3)
      go_roundw
      case rel => exact ⟨k + 1, co3, c3, by omega, by go_num, rfl, by rw [HS.out]; exact f3, B.trans (((box_below wr _).mono sB).trans b3)⟩
      case measure => simp [intOf]; omega
    · obtain rfl : k = n := by omega
      have t5 : decide ((k : Int) < (k : Int)) = false := by simp
      rw [HT.out] at F
      have K := k1.trans (B.mono k1.size)
      have cL := list8_any oo k oc zs wr F.rd F.sl (by omega)
      have XV := h.below K (Nat.le_refl _)
      go_upto_region 15 with (first
        | (go_at_call 9; (with_reducible refine cL.mono ?_); rintro e w4 ⟨o1, c1, o2, c2, rfl, fs, fa, k4⟩)
        | (go_at_call 8; (with_reducible refine (cI w4 _ _ _ _ fs.rd fa.rd).mono ?_); rintro e w6 ⟨pD, nD, cD, qD, mD, dD, S6, A6, rfl, f6, g6, ⟨rfl, rfl⟩, k6⟩; have k46 := k4.trans (k6.mono k4.size); have kb6 := box_below w6 (.cells #[.slice pD nD cD, .slice qD mD dD] 26); have k47 := k46.trans (kb6.mono k46.size); have XW := XV.below k47 (Nat.le_refl _); have cZ1 := cZ _ XW)
        | (go_at_call 10; (with_reducible refine cZ1.mono ?_); rintro e w7 ⟨rfl, hw⟩; rw [hw]; clear hw w7))
      have K7 := K.trans (k47.mono K.size)
      go_wp2
      go_ret
      exact ⟨rfl, K7⟩

set_option maxHeartbeats 8000000 in
set_option maxRecDepth 20000 in
theorem counts_out (ao : Option Addr) (n c : Nat) (zs : List Int) (z : Int) (w : World) (h : Rd w ao n zs) (hs : Sl ao n c) (z1 : -9223372036854775808 ≤ z) (z2 : z ≤ 9223372036854775807) (hn : n ≤ 4096) (hp : ∀ k, k < n → 0 ≤ nth zs k) (hF : mayF zs = 0) (hz : ¬ z.natAbs ≤ 4096) :
    Calls Try.prog 3 #[.slice ao n c, .int .i64 z] w fun e w' => e = .returned (.bool true) ∧ Below w.heap.size w w' := by
  have cG := begun8_any w
  have t1 : decide (4096 < n) = false := by simp; omega
  have t2 : ¬ (4096 : Int) < (n : Int) := by omega
  have HL : Hid (zs.length = n) := h.len
  have HT : Hid (zs.take n = zs) := by show _ = _; rw [List.take_of_length_le (by rw [HL.out]; exact Nat.le_refl _)]
  have HP : Hid (∀ k, k < n → 0 ≤ nth zs k) := hp
  have hcn : ((cntN zs n : Nat) : Int) = sizeF zs := by rw [sizeF_ok hF, cntN_pr (fun k hk => hp k (by rw [← h.len]; exact hk)) n (by rw [h.len]; exact Nat.le_refl _), HT.out]
  have cI : ∀ V o1 c1 o2 c2, Rd V (some o1) 1 [(n : Int)] → Rd V o2 n zs → Calls Try.prog 8 #[.int .i64 34, .agg #[.slice (some o1) 1 c1, .slice o2 n c2]] V fun e w' => AnsQ V (fun S A => S = zs ∧ A = rgL (cntN zs n)) 0 e w' := fun V o1 c1 o2 c2 h1 h2 => iota_list (some o1) o2 c1 n c2 zs V h1 h2 hn hp hF
  have cZ : ∀ V, Rd V ao n zs → Calls Try.prog 10 #[.slice ao n c] V fun e w' => e = .returned (.tuple #[.int .i64 ((cntN zs n : Nat) : Int), .int .i64 0]) ∧ w' = V := fun V hv => by have := size_any ao n c zs V hv; rw [← hcn, hF] at this; exact this
  have hsz4 : cntN zs n ≤ 4096 := by have := sizeF_bd zs; omega
  have HZS : Hid (zs.length = n) := h.len
  generalize cntN zs n = SZ at *
  clear hcn
  clear hp hF
  have cS := fun V => scalar8_any z V z1 z2
  have cB := fun V o c (f : Rd V o 1 [z]) => iota_sc_bad o c z V f hz
  have hz' : z < -4096 ∨ 4096 < z := by omega
  clear hz
  go_enter Try.func3, Try.ntmps3
  go_wp2_with (go_at_call 7; (with_reducible refine cG.mono ?_); rintro e w1 ⟨rfl, k1⟩)
  have X1 := h.below k1 (Nat.le_refl _)
  go_loopw [5, 6] (fun s i V => ∃ (k : Nat) (oo : Option Addr) (oc : Nat), k ≤ n ∧ i = .int .i64 (k : Nat) ∧ s = .slice oo k oc ∧ Ft 2 V w1.heap.size oo k oc (zs.take k) ∧ Below w1.heap.size w1 V) (fun _ i _ => n - (intOf i).toNat)
  case atStart => exact ⟨0, none, 0, Nat.zero_le _, rfl, rfl, Ft.nil _ _ _, Below.refl _ _⟩
  case round =>
    obtain ⟨k, oo, oc, hk, rfl, rfl, F, B⟩ := hrel
    have sB := B.size
    by_cases hlt : k < n
    · have t5 : decide ((k : Int) < (n : Int)) = true := by simp; omega
      have bk : (k : Int) < (n : Int) := by omega
      obtain ⟨b, off, rfl, hb, hc⟩ := (X1.below B (Nat.le_refl _)).cells (by omega)
      have c1 := hc k hlt
      have hnum := h.num k hlt
      have HS : Hid (zs.take (k + 1) = zs.take k ++ [nth zs k]) := take_nth (by rw [HL.out]; exact hlt)
      clear hc
      have t6 : decide (nth zs k < 0) = false := by have := HP.out k hlt; simp; omega
      generalize hx : nth zs k = x at *
      have HX : Hid (nth zs k = x) := hx
      clear hx
      go_wp2_with (at_builtin; refine wpList_joinT tyL rfl _ _ rfl w1.heap.size oo (some ⟨wr.heap.size, 0, none⟩) k oc 1 1 _ [x] rfl rfl (F.below (box_below wr _) (Nat.le_refl _)) (ft_new 2 wr [x] (by simp) (num1 hnum.1 hnum.2)).rd (ft_new 2 wr [x] (by simp) (num1 hnum.1 hnum.2)).sl (by omega) (by simp; omega) ?_; intro co3 c3 w3 f3 b3)
      go_roundw
      case rel => exact ⟨k + 1, co3, c3, by omega, by go_num, rfl, by rw [HS.out]; exact f3, B.trans (((box_below wr _).mono sB).trans b3)⟩
      case measure => simp [intOf]; omega
    · obtain rfl : k = n := by omega
      have t5 : decide ((k : Int) < (k : Int)) = false := by simp
      rw [HT.out] at F
      have K := k1.trans (B.mono k1.size)
      have cL := list8_any oo k oc zs wr F.rd F.sl (by omega)
      have XV := h.below K (Nat.le_refl _)
      go_upto_region 16 with (first
        | (go_at_call 9; (with_reducible refine cL.mono ?_); rintro e w4 ⟨o1, c1, o2, c2, rfl, fs, fa, k4⟩)
        | (go_at_call 8; (with_reducible refine (cI w4 _ _ _ _ fs.rd fa.rd).mono ?_); rintro e w6 ⟨pD, nD, cD, qD, mD, dD, S6, A6, rfl, f6, g6, ⟨rfl, rfl⟩, k6⟩; have k46 := k4.trans (k6.mono k4.size); have kb6 := box_below w6 (.cells #[.slice pD nD cD, .slice qD mD dD] 26); have k47 := k46.trans (kb6.mono k46.size); have XW := XV.below k47 (Nat.le_refl _); have cZ1 := cZ _ XW)
        | (go_at_call 10; (with_reducible refine cZ1.mono ?_); rintro e w7 ⟨rfl, hw⟩; rw [hw]; clear hw w7))
      have K7 := K.trans (k47.mono K.size)
      have BX := bq_new (c1 := cD) (c2 := dD) f6.rd g6.rd
      obtain rfl : mD = SZ := by rw [← g6.rd.len]; exact rgL_len _
      obtain rfl : nD = k := by rw [← f6.rd.len]; exact HZS.out
      have u1 : (mD != mD) = false := by simp
      have u2 : (nD != nD) = false := by simp
      generalize hW7 : w6.alloc (.cells #[.slice pD nD cD, .slice qD mD dD] 26) = W7 at *
      generalize w6.heap.size = gD at *
      clear hW7 cI cZ cZ1 cL F XV XW f6 g6 fs fa k4 k6 k46 kb6 k47 B K X1 k1
      obtain ⟨q0, q1⟩ := BX.c
      go_wp2
      go_loopw [11] (fun i V => ∃ j : Nat, j ≤ mD ∧ i = .int .i64 (j : Nat) ∧ V = W7) (fun i _ => mD - (intOf i).toNat)
      case atStart => exact ⟨0, Nat.zero_le _, rfl, rfl⟩
      case round =>
        obtain ⟨j, hj, rfl, rfl⟩ := hrel
        by_cases hlt : j < mD
        · have t6 : decide ((j : Int) < (mD : Int)) = true := by simp; omega
          have bj : (j : Int) < (mD : Int) := by omega
          obtain ⟨b, off, rfl, hb, hc⟩ := BX.a.cells (by omega)
          have c1 := hc j hlt
          rw [rgL_nth hlt] at c1
          clear hc
          go_wp2
          go_roundw
          case rel => exact ⟨j + 1, by omega, by go_num, (by first | trivial | rfl)⟩
          case measure => simp [intOf]; omega
        · obtain rfl : j = mD := by omega
          have t6 : decide ((j : Int) < (j : Int)) = false := by simp
          rcases hz' with hz' | hz'
          · have g1 : decide (z < -4096) = true := by simpa using hz'
            clear hz'
            go_wp2_with (first
              | (go_at_call 11; (with_reducible refine (cS _).mono ?_); rintro e v1 ⟨x1, x2, rfl, fx, j1⟩)
              | (go_at_call 8; (with_reducible refine (cB v1 _ _ fx.rd).mono ?_); rintro e v2 ⟨pE, nE, cE, qE, mE, dE, S8, A8, rfl, f8, g8, ⟨rfl, rfl⟩, j2⟩; have j12 := j1.trans (j2.mono j1.size); have kb8 := box_below v2 (.cells #[.slice pE nE cE, .slice qE mE dE] 26); have j13 := j12.trans (kb8.mono j12.size)))
            go_ret
            exact ⟨rfl, K7.trans (j13.mono K7.size)⟩
          · have g1 : decide (z < -4096) = false := by simp; omega
            have g2 : decide (4096 < z) = true := by simpa using hz'
            clear hz'
            go_wp2_with (first
              | (go_at_call 11; (with_reducible refine (cS _).mono ?_); rintro e v1 ⟨x1, x2, rfl, fx, j1⟩)
              | (go_at_call 8; (with_reducible refine (cB v1 _ _ fx.rd).mono ?_); rintro e v2 ⟨pE, nE, cE, qE, mE, dE, S8, A8, rfl, f8, g8, ⟨rfl, rfl⟩, j2⟩; have j12 := j1.trans (j2.mono j1.size); have kb8 := box_below v2 (.cells #[.slice pE nE cE, .slice qE mE dE] 26); have j13 := j12.trans (kb8.mono j12.size)))
            go_ret
            exact ⟨rfl, K7.trans (j13.mono K7.size)⟩

set_option maxHeartbeats 8000000 in
set_option maxRecDepth 20000 in
theorem counts_pos (ao : Option Addr) (n c : Nat) (zs : List Int) (z : Int) (w : World) (h : Rd w ao n zs) (hs : Sl ao n c) (z1 : -9223372036854775808 ≤ z) (z2 : z ≤ 9223372036854775807) (hn : n ≤ 4096) (hp : ∀ k, k < n → 0 ≤ nth zs k) (hF : mayF zs = 0) (hz : z.natAbs ≤ 4096) (hsg : 0 ≤ z) :
    Calls Try.prog 3 #[.slice ao n c, .int .i64 z] w fun e w' => e = .returned (.bool true) ∧ Below w.heap.size w w' := by
  have cG := begun8_any w
  have t1 : decide (4096 < n) = false := by simp; omega
  have t2 : ¬ (4096 : Int) < (n : Int) := by omega
  have HL : Hid (zs.length = n) := h.len
  have HT : Hid (zs.take n = zs) := by show _ = _; rw [List.take_of_length_le (by rw [HL.out]; exact Nat.le_refl _)]
  have HP : Hid (∀ k, k < n → 0 ≤ nth zs k) := hp
  have hcn : ((cntN zs n : Nat) : Int) = sizeF zs := by rw [sizeF_ok hF, cntN_pr (fun k hk => hp k (by rw [← h.len]; exact hk)) n (by rw [h.len]; exact Nat.le_refl _), HT.out]
  have cI : ∀ V o1 c1 o2 c2, Rd V (some o1) 1 [(n : Int)] → Rd V o2 n zs → Calls Try.prog 8 #[.int .i64 34, .agg #[.slice (some o1) 1 c1, .slice o2 n c2]] V fun e w' => AnsQ V (fun S A => S = zs ∧ A = rgL (cntN zs n)) 0 e w' := fun V o1 c1 o2 c2 h1 h2 => iota_list (some o1) o2 c1 n c2 zs V h1 h2 hn hp hF
  have cZ : ∀ V, Rd V ao n zs → Calls Try.prog 10 #[.slice ao n c] V fun e w' => e = .returned (.tuple #[.int .i64 ((cntN zs n : Nat) : Int), .int .i64 0]) ∧ w' = V := fun V hv => by have := size_any ao n c zs V hv; rw [← hcn, hF] at this; exact this
  have hsz4 : cntN zs n ≤ 4096 := by have := sizeF_bd zs; omega
  have HZS : Hid (zs.length = n) := h.len
  generalize cntN zs n = SZ at *
  clear hcn
  clear hp hF
  have cS := fun V => scalar8_any z V z1 z2
  have cB := fun V o c (f : Rd V o 1 [z]) => iota_sc o c z V f hz
  obtain ⟨nz, hnz⟩ : ∃ nz : Int, nz = -z := ⟨_, rfl⟩
  have wn : IntKind.i64.wrap (-z) = nz := by rw [hnz]; exact wrZ (by omega) (by omega)
  have cS2 := fun V => scalar8_any nz V (by omega) (by omega)
  have cB2 := fun V o c (f : Rd V o 1 [nz]) => iota_sc o c nz V f (by omega)
  obtain ⟨M, hM⟩ : ∃ M : Nat, z.natAbs = M := ⟨_, rfl⟩
  have hM2 : nz.natAbs = M := by omega
  rw [hM] at cB
  rw [hM2] at cB2
  have HV : Hid (∀ j, j < M → nth (blw z [0]) j = nth (blw nz [0]) (M - 1 - j)) := fun j hj => by
    rw [blw_one_nth (by omega), blw_one_nth (by omega)]
    split <;> split <;> omega
  have l1 : (blw z [0]).length = M := by rw [blw_len, hM]; simp
  have l2 : (blw nz [0]).length = M := by rw [blw_len, hM2]; simp
  have HL1 : Hid ((blw z [0]).length = M) := l1
  have HL2 : Hid ((blw nz [0]).length = M) := l2
  have M4 : M ≤ 4096 := by omega
  have g1 : decide (z < -4096) = false := by simp; omega
  have g2 : decide (4096 < z) = false := by simp; omega
  generalize blw z [0] = BZ at *
  generalize blw nz [0] = BN at *
  have HM : Hid (z = (M : Int) ∧ nz = -(M : Int)) := ⟨by omega, by omega⟩
  have hmx : max z nz = (M : Int) := by omega
  have t9 : ((M : Int) != max z nz) = false := by rw [hmx]; simp
  have gg : ((M : Int) != z) = false := by simp; omega
  clear hz hsg hnz hM hM2 l1 l2 hmx
  have o1 : decide (z < nz) = false := by have := HM.out; simp; omega
  go_enter Try.func3, Try.ntmps3
  go_wp2_with (go_at_call 7; (with_reducible refine cG.mono ?_); rintro e w1 ⟨rfl, k1⟩)
  have X1 := h.below k1 (Nat.le_refl _)
  go_loopw [5, 6] (fun s i V => ∃ (k : Nat) (oo : Option Addr) (oc : Nat), k ≤ n ∧ i = .int .i64 (k : Nat) ∧ s = .slice oo k oc ∧ Ft 2 V w1.heap.size oo k oc (zs.take k) ∧ Below w1.heap.size w1 V) (fun _ i _ => n - (intOf i).toNat)
  case atStart => exact ⟨0, none, 0, Nat.zero_le _, rfl, rfl, Ft.nil _ _ _, Below.refl _ _⟩
  case round =>
    obtain ⟨k, oo, oc, hk, rfl, rfl, F, B⟩ := hrel
    have sB := B.size
    by_cases hlt : k < n
    · have t5 : decide ((k : Int) < (n : Int)) = true := by simp; omega
      have bk : (k : Int) < (n : Int) := by omega
      obtain ⟨b, off, rfl, hb, hc⟩ := (X1.below B (Nat.le_refl _)).cells (by omega)
      have c1 := hc k hlt
      have hnum := h.num k hlt
      have HS : Hid (zs.take (k + 1) = zs.take k ++ [nth zs k]) := take_nth (by rw [HL.out]; exact hlt)
      clear hc
      have t6 : decide (nth zs k < 0) = false := by have := HP.out k hlt; simp; omega
      generalize hx : nth zs k = x at *
      have HX : Hid (nth zs k = x) := hx
      clear hx
      go_wp2_with (at_builtin; refine wpList_joinT tyL rfl _ _ rfl w1.heap.size oo (some ⟨wr.heap.size, 0, none⟩) k oc 1 1 _ [x] rfl rfl (F.below (box_below wr _) (Nat.le_refl _)) (ft_new 2 wr [x] (by simp) (num1 hnum.1 hnum.2)).rd (ft_new 2 wr [x] (by simp) (num1 hnum.1 hnum.2)).sl (by omega) (by simp; omega) ?_; intro co3 c3 w3 f3 b3)
      go_roundw
      case rel => exact ⟨k + 1, co3, c3, by omega, by go_num, rfl, by rw [HS.out]; exact f3, B.trans (((box_below wr _).mono sB).trans b3)⟩
      case measure => simp [intOf]; omega
    · obtain rfl : k = n := by omega
      have t5 : decide ((k : Int) < (k : Int)) = false := by simp
      rw [HT.out] at F
      have K := k1.trans (B.mono k1.size)
      have cL := list8_any oo k oc zs wr F.rd F.sl (by omega)
      have XV := h.below K (Nat.le_refl _)
      go_upto_region 16 with (first
        | (go_at_call 9; (with_reducible refine cL.mono ?_); rintro e w4 ⟨o1, c1, o2, c2, rfl, fs, fa, k4⟩)
        | (go_at_call 8; (with_reducible refine (cI w4 _ _ _ _ fs.rd fa.rd).mono ?_); rintro e w6 ⟨pD, nD, cD, qD, mD, dD, S6, A6, rfl, f6, g6, ⟨rfl, rfl⟩, k6⟩; have k46 := k4.trans (k6.mono k4.size); have kb6 := box_below w6 (.cells #[.slice pD nD cD, .slice qD mD dD] 26); have k47 := k46.trans (kb6.mono k46.size); have XW := XV.below k47 (Nat.le_refl _); have cZ1 := cZ _ XW)
        | (go_at_call 10; (with_reducible refine cZ1.mono ?_); rintro e w7 ⟨rfl, hw⟩; rw [hw]; clear hw w7))
      have K7 := K.trans (k47.mono K.size)
      have BX := bq_new (c1 := cD) (c2 := dD) f6.rd g6.rd
      obtain rfl : mD = SZ := by rw [← g6.rd.len]; exact rgL_len _
      obtain rfl : nD = k := by rw [← f6.rd.len]; exact HZS.out
      have u1 : (mD != mD) = false := by simp
      have u2 : (nD != nD) = false := by simp
      generalize hW7 : w6.alloc (.cells #[.slice pD nD cD, .slice qD mD dD] 26) = W7 at *
      generalize w6.heap.size = gD at *
      clear hW7 cI cZ cZ1 cL F XV XW f6 g6 fs fa k4 k6 k46 kb6 k47 B K X1 k1
      obtain ⟨q0, q1⟩ := BX.c
      go_wp2
      go_loopw [11] (fun i V => ∃ j : Nat, j ≤ mD ∧ i = .int .i64 (j : Nat) ∧ V = W7) (fun i _ => mD - (intOf i).toNat)
      case atStart => exact ⟨0, Nat.zero_le _, rfl, rfl⟩
      case round =>
        obtain ⟨j, hj, rfl, rfl⟩ := hrel
        by_cases hlt : j < mD
        · have t6 : decide ((j : Int) < (mD : Int)) = true := by simp; omega
          have bj : (j : Int) < (mD : Int) := by omega
          obtain ⟨b, off, rfl, hb, hc⟩ := BX.a.cells (by omega)
          have c1 := hc j hlt
          rw [rgL_nth hlt] at c1
          clear hc
          go_wp2
          go_roundw
          case rel => exact ⟨j + 1, by omega, by go_num, (by first | trivial | rfl)⟩
          case measure => simp [intOf]; omega
        · obtain rfl : j = mD := by omega
          have t6 : decide ((j : Int) < (j : Int)) = false := by simp
          go_upto_region 27 with (first
            | (go_at_call 11; (with_reducible refine (cS _).mono ?_); rintro e v1 ⟨x1, x2, rfl, fx, j1⟩)
            | (go_at_call 8; (with_reducible refine (cB v1 _ _ fx.rd).mono ?_); rintro e v2 ⟨pE, nE, cE, qE, mE, dE, S8, A8, rfl, f8, g8, ⟨rfl, rfl⟩, j2⟩; have j12 := j1.trans (j2.mono j1.size); have kb8 := box_below v2 (.cells #[.slice pE nE cE, .slice qE mE dE] 26); have j13 := j12.trans (kb8.mono j12.size); have BE := bq_new (c1 := cE) (c2 := dE) f8.rd g8.rd)
            | (go_at_call 11; (with_reducible refine (cS2 _).mono ?_); rintro e v3 ⟨x3, x4, rfl, fx2, j3⟩)
            | (go_at_call 8; (with_reducible refine (cB2 v3 _ _ fx2.rd).mono ?_); rintro e v4 ⟨pH, nH, cH, qH, mH, dH, S9, A9, rfl, f9, g9, ⟨rfl, rfl⟩, j4⟩; have j34 := j3.trans (j4.mono j3.size); have kb9 := box_below v4 (.cells #[.slice pH nH cH, .slice qH mH dH] 26); have j35 := j34.trans (kb9.mono j34.size); have BH := bq_new (c1 := cH) (c2 := dH) f9.rd g9.rd; have BE2 := BE.below j35))
          obtain rfl : mE = M := by rw [← g8.rd.len]; exact HL1.out
          obtain rfl : mH = mE := by rw [← g9.rd.len]; exact HL2.out
          have K9 := (K7.trans (j13.mono K7.size)).trans (j35.mono (Nat.le_trans K7.size j13.size))
          have u3 : (mH != mH) = false := by simp
          generalize hW9 : v4.alloc (.cells #[.slice pH nH cH, .slice qH mH dH] 26) = W9 at *
          generalize v4.heap.size = gH at *
          generalize v2.heap.size = gE at *
          clear hW9 cS cB cS2 cB2 f8 g8 f9 g9 fx fx2 j1 j2 j12 kb8 j13 BE j3 j4 j34 kb9 j35 BX q0 q1 K7
          obtain ⟨y0, y1⟩ := BE2.c
          obtain ⟨y2, y3⟩ := BH.c
          go_wp2
          any_goals (exfalso; have a := HM.out; omega)
          go_loopw [16] (fun i V => ∃ (j : Nat) (q : Nat), j ≤ mH ∧ i = .int .i64 (j : Nat) ∧ V = W9.drewN q) (fun i _ => mH - (intOf i).toNat)
          case atStart => exact ⟨0, 0, Nat.zero_le _, rfl, rfl⟩
          case round =>
            obtain ⟨i, q, hi, rfl, rfl⟩ := hrel
            by_cases hlt : i < mH
            · have t7 : decide ((i : Int) < (mH : Int)) = true := by simp; omega
              have bi : (i : Int) < (mH : Int) := by omega
              obtain ⟨b, off, rfl, hb, hc⟩ := BE2.a.cells (by omega)
              obtain ⟨b', off', rfl, hb', hc'⟩ := BH.a.cells (by omega)
              obtain ⟨ix, hix⟩ : ∃ ix : Nat, ix = mH - 1 - i := ⟨_, rfl⟩
              have c1 := hc i hlt
              have c2 := hc' ix (by omega)
              have ev := HV.out i hlt
              rw [← hix] at ev
              rw [← ev] at c2
              have w1 : IntKind.i64.wrap ((mH : Int) - 1) = (mH : Int) - 1 := wrZ (by omega) (by omega)
              have w2 : IntKind.i64.wrap ((mH : Int) - 1 - (i : Int)) = (ix : Int) := by rw [show (mH : Int) - 1 - (i : Int) = (ix : Int) by omega]; exact wrZ (by omega) (by omega)
              have bx : (ix : Int) < (mH : Int) := by omega
              clear hc hc' ev hix
              generalize nth A8 i = x at *
              go_wp2
              go_quiet (fail)
              go_wp2
              go_roundw
              case rel => exact ⟨i + 1, q + nq, by omega, by go_num, (by first | rfl | simp)⟩
              case measure => simp [intOf]; omega
            · obtain rfl : i = mH := by omega
              have t7 : decide ((i : Int) < (i : Int)) = false := by simp
              go_wp2
              go_ret
              exact ⟨rfl, K9.trans ((drewN_below W9 q).mono K9.size)⟩

set_option maxHeartbeats 8000000 in
set_option maxRecDepth 20000 in
theorem counts_min (ao : Option Addr) (n c : Nat) (zs : List Int) (z : Int) (w : World) (h : Rd w ao n zs) (hs : Sl ao n c) (z1 : -9223372036854775808 ≤ z) (z2 : z ≤ 9223372036854775807) (hn : n ≤ 4096) (hp : ∀ k, k < n → 0 ≤ nth zs k) (hF : mayF zs = 0) (hz : z.natAbs ≤ 4096) (hsg : z < 0) :
    Calls Try.prog 3 #[.slice ao n c, .int .i64 z] w fun e w' => e = .returned (.bool true) ∧ Below w.heap.size w w' := by
  have cG := begun8_any w
  have t1 : decide (4096 < n) = false := by simp; omega
  have t2 : ¬ (4096 : Int) < (n : Int) := by omega
  have HL : Hid (zs.length = n) := h.len
  have HT : Hid (zs.take n = zs) := by show _ = _; rw [List.take_of_length_le (by rw [HL.out]; exact Nat.le_refl _)]
  have HP : Hid (∀ k, k < n → 0 ≤ nth zs k) := hp
  have hcn : ((cntN zs n : Nat) : Int) = sizeF zs := by rw [sizeF_ok hF, cntN_pr (fun k hk => hp k (by rw [← h.len]; exact hk)) n (by rw [h.len]; exact Nat.le_refl _), HT.out]
  have cI : ∀ V o1 c1 o2 c2, Rd V (some o1) 1 [(n : Int)] → Rd V o2 n zs → Calls Try.prog 8 #[.int .i64 34, .agg #[.slice (some o1) 1 c1, .slice o2 n c2]] V fun e w' => AnsQ V (fun S A => S = zs ∧ A = rgL (cntN zs n)) 0 e w' := fun V o1 c1 o2 c2 h1 h2 => iota_list (some o1) o2 c1 n c2 zs V h1 h2 hn hp hF
  have cZ : ∀ V, Rd V ao n zs → Calls Try.prog 10 #[.slice ao n c] V fun e w' => e = .returned (.tuple #[.int .i64 ((cntN zs n : Nat) : Int), .int .i64 0]) ∧ w' = V := fun V hv => by have := size_any ao n c zs V hv; rw [← hcn, hF] at this; exact this
  have hsz4 : cntN zs n ≤ 4096 := by have := sizeF_bd zs; omega
  have HZS : Hid (zs.length = n) := h.len
  generalize cntN zs n = SZ at *
  clear hcn
  clear hp hF
  have cS := fun V => scalar8_any z V z1 z2
  have cB := fun V o c (f : Rd V o 1 [z]) => iota_sc o c z V f hz
  obtain ⟨nz, hnz⟩ : ∃ nz : Int, nz = -z := ⟨_, rfl⟩
  have wn : IntKind.i64.wrap (-z) = nz := by rw [hnz]; exact wrZ (by omega) (by omega)
  have cS2 := fun V => scalar8_any nz V (by omega) (by omega)
  have cB2 := fun V o c (f : Rd V o 1 [nz]) => iota_sc o c nz V f (by omega)
  obtain ⟨M, hM⟩ : ∃ M : Nat, z.natAbs = M := ⟨_, rfl⟩
  have hM2 : nz.natAbs = M := by omega
  rw [hM] at cB
  rw [hM2] at cB2
  have HV : Hid (∀ j, j < M → nth (blw z [0]) j = nth (blw nz [0]) (M - 1 - j)) := fun j hj => by
    rw [blw_one_nth (by omega), blw_one_nth (by omega)]
    split <;> split <;> omega
  have l1 : (blw z [0]).length = M := by rw [blw_len, hM]; simp
  have l2 : (blw nz [0]).length = M := by rw [blw_len, hM2]; simp
  have HL1 : Hid ((blw z [0]).length = M) := l1
  have HL2 : Hid ((blw nz [0]).length = M) := l2
  have M4 : M ≤ 4096 := by omega
  have g1 : decide (z < -4096) = false := by simp; omega
  have g2 : decide (4096 < z) = false := by simp; omega
  generalize blw z [0] = BZ at *
  generalize blw nz [0] = BN at *
  have HM : Hid (nz = (M : Int) ∧ z = -(M : Int) ∧ 0 < M) := ⟨by omega, by omega, by omega⟩
  have hmx : max z nz = (M : Int) := by omega
  have t9 : ((M : Int) != max z nz) = false := by rw [hmx]; simp
  have gn : ((M : Int) != nz) = false := by simp; omega
  clear hz hsg hnz hM hM2 l1 l2 hmx
  have o1 : decide (z < nz) = true := by have := HM.out; simp; omega
  go_enter Try.func3, Try.ntmps3
  go_wp2_with (go_at_call 7; (with_reducible refine cG.mono ?_); rintro e w1 ⟨rfl, k1⟩)
  have X1 := h.below k1 (Nat.le_refl _)
  go_loopw [5, 6] (fun s i V => ∃ (k : Nat) (oo : Option Addr) (oc : Nat), k ≤ n ∧ i = .int .i64 (k : Nat) ∧ s = .slice oo k oc ∧ Ft 2 V w1.heap.size oo k oc (zs.take k) ∧ Below w1.heap.size w1 V) (fun _ i _ => n - (intOf i).toNat)
  case atStart => exact ⟨0, none, 0, Nat.zero_le _, rfl, rfl, Ft.nil _ _ _, Below.refl _ _⟩
  case round =>
    obtain ⟨k, oo, oc, hk, rfl, rfl, F, B⟩ := hrel
    have sB := B.size
    by_cases hlt : k < n
    · have t5 : decide ((k : Int) < (n : Int)) = true := by simp; omega
      have bk : (k : Int) < (n : Int) := by omega
      obtain ⟨b, off, rfl, hb, hc⟩ := (X1.below B (Nat.le_refl _)).cells (by omega)
      have c1 := hc k hlt
      have hnum := h.num k hlt
      have HS : Hid (zs.take (k + 1) = zs.take k ++ [nth zs k]) := take_nth (by rw [HL.out]; exact hlt)
      clear hc
      have t6 : decide (nth zs k < 0) = false := by have := HP.out k hlt; simp; omega
      generalize hx : nth zs k = x at *
      have HX : Hid (nth zs k = x) := hx
      clear hx
      go_wp2_with (at_builtin; refine wpList_joinT tyL rfl _ _ rfl w1.heap.size oo (some ⟨wr.heap.size, 0, none⟩) k oc 1 1 _ [x] rfl rfl (F.below (box_below wr _) (Nat.le_refl _)) (ft_new 2 wr [x] (by simp) (num1 hnum.1 hnum.2)).rd (ft_new 2 wr [x] (by simp) (num1 hnum.1 hnum.2)).sl (by omega) (by simp; omega) ?_; intro co3 c3 w3 f3 b3)
      go_roundw
      case rel => exact ⟨k + 1, co3, c3, by omega, by go_num, rfl, by rw [HS.out]; exact f3, B.trans (((box_below wr _).mono sB).trans b3)⟩
      case measure => simp [intOf]; omega
    · obtain rfl : k = n := by omega
      have t5 : decide ((k : Int) < (k : Int)) = false := by simp
      rw [HT.out] at F
      have K := k1.trans (B.mono k1.size)
      have cL := list8_any oo k oc zs wr F.rd F.sl (by omega)
      have XV := h.below K (Nat.le_refl _)
      go_upto_region 16 with (first
        | (go_at_call 9; (with_reducible refine cL.mono ?_); rintro e w4 ⟨o1, c1, o2, c2, rfl, fs, fa, k4⟩)
        | (go_at_call 8; (with_reducible refine (cI w4 _ _ _ _ fs.rd fa.rd).mono ?_); rintro e w6 ⟨pD, nD, cD, qD, mD, dD, S6, A6, rfl, f6, g6, ⟨rfl, rfl⟩, k6⟩; have k46 := k4.trans (k6.mono k4.size); have kb6 := box_below w6 (.cells #[.slice pD nD cD, .slice qD mD dD] 26); have k47 := k46.trans (kb6.mono k46.size); have XW := XV.below k47 (Nat.le_refl _); have cZ1 := cZ _ XW)
        | (go_at_call 10; (with_reducible refine cZ1.mono ?_); rintro e w7 ⟨rfl, hw⟩; rw [hw]; clear hw w7))
      have K7 := K.trans (k47.mono K.size)
      have BX := bq_new (c1 := cD) (c2 := dD) f6.rd g6.rd
      obtain rfl : mD = SZ := by rw [← g6.rd.len]; exact rgL_len _
      obtain rfl : nD = k := by rw [← f6.rd.len]; exact HZS.out
      have u1 : (mD != mD) = false := by simp
      have u2 : (nD != nD) = false := by simp
      generalize hW7 : w6.alloc (.cells #[.slice pD nD cD, .slice qD mD dD] 26) = W7 at *
      generalize w6.heap.size = gD at *
      clear hW7 cI cZ cZ1 cL F XV XW f6 g6 fs fa k4 k6 k46 kb6 k47 B K X1 k1
      obtain ⟨q0, q1⟩ := BX.c
      go_wp2
      go_loopw [11] (fun i V => ∃ j : Nat, j ≤ mD ∧ i = .int .i64 (j : Nat) ∧ V = W7) (fun i _ => mD - (intOf i).toNat)
      case atStart => exact ⟨0, Nat.zero_le _, rfl, rfl⟩
      case round =>
        obtain ⟨j, hj, rfl, rfl⟩ := hrel
        by_cases hlt : j < mD
        · have t6 : decide ((j : Int) < (mD : Int)) = true := by simp; omega
          have bj : (j : Int) < (mD : Int) := by omega
          obtain ⟨b, off, rfl, hb, hc⟩ := BX.a.cells (by omega)
          have c1 := hc j hlt
          rw [rgL_nth hlt] at c1
          clear hc
          go_wp2
          go_roundw
          case rel => exact ⟨j + 1, by omega, by go_num, (by first | trivial | rfl)⟩
          case measure => simp [intOf]; omega
        · obtain rfl : j = mD := by omega
          have t6 : decide ((j : Int) < (j : Int)) = false := by simp
          go_upto_region 27 with (first
            | (go_at_call 11; (with_reducible refine (cS _).mono ?_); rintro e v1 ⟨x1, x2, rfl, fx, j1⟩)
            | (go_at_call 8; (with_reducible refine (cB v1 _ _ fx.rd).mono ?_); rintro e v2 ⟨pE, nE, cE, qE, mE, dE, S8, A8, rfl, f8, g8, ⟨rfl, rfl⟩, j2⟩; have j12 := j1.trans (j2.mono j1.size); have kb8 := box_below v2 (.cells #[.slice pE nE cE, .slice qE mE dE] 26); have j13 := j12.trans (kb8.mono j12.size); have BE := bq_new (c1 := cE) (c2 := dE) f8.rd g8.rd)
            | (go_at_call 11; (with_reducible refine (cS2 _).mono ?_); rintro e v3 ⟨x3, x4, rfl, fx2, j3⟩)
            | (go_at_call 8; (with_reducible refine (cB2 v3 _ _ fx2.rd).mono ?_); rintro e v4 ⟨pH, nH, cH, qH, mH, dH, S9, A9, rfl, f9, g9, ⟨rfl, rfl⟩, j4⟩; have j34 := j3.trans (j4.mono j3.size); have kb9 := box_below v4 (.cells #[.slice pH nH cH, .slice qH mH dH] 26); have j35 := j34.trans (kb9.mono j34.size); have BH := bq_new (c1 := cH) (c2 := dH) f9.rd g9.rd; have BE2 := BE.below j35))
          obtain rfl : mE = M := by rw [← g8.rd.len]; exact HL1.out
          obtain rfl : mH = mE := by rw [← g9.rd.len]; exact HL2.out
          have K9 := (K7.trans (j13.mono K7.size)).trans (j35.mono (Nat.le_trans K7.size j13.size))
          have u3 : (mH != mH) = false := by simp
          generalize hW9 : v4.alloc (.cells #[.slice pH nH cH, .slice qH mH dH] 26) = W9 at *
          generalize v4.heap.size = gH at *
          generalize v2.heap.size = gE at *
          clear hW9 cS cB cS2 cB2 f8 g8 f9 g9 fx fx2 j1 j2 j12 kb8 j13 BE j3 j4 j34 kb9 j35 BX q0 q1 K7
          obtain ⟨y0, y1⟩ := BE2.c
          obtain ⟨y2, y3⟩ := BH.c
          go_wp2
          any_goals (exfalso; have a := HM.out; omega)
          go_loopw [16] (fun i V => ∃ (j : Nat) (q : Nat), j ≤ mH ∧ i = .int .i64 (j : Nat) ∧ V = W9.drewN q) (fun i _ => mH - (intOf i).toNat)
          case atStart => exact ⟨0, 0, Nat.zero_le _, rfl, rfl⟩
          case round =>
            obtain ⟨i, q, hi, rfl, rfl⟩ := hrel
            by_cases hlt : i < mH
            · have t7 : decide ((i : Int) < (mH : Int)) = true := by simp; omega
              have bi : (i : Int) < (mH : Int) := by omega
              obtain ⟨b, off, rfl, hb, hc⟩ := BE2.a.cells (by omega)
              obtain ⟨b', off', rfl, hb', hc'⟩ := BH.a.cells (by omega)
              obtain ⟨ix, hix⟩ : ∃ ix : Nat, ix = mH - 1 - i := ⟨_, rfl⟩
              have c1 := hc i hlt
              have c2 := hc' ix (by omega)
              have ev := HV.out i hlt
              rw [← hix] at ev
              rw [← ev] at c2
              have w1 : IntKind.i64.wrap ((mH : Int) - 1) = (mH : Int) - 1 := wrZ (by omega) (by omega)
              have w2 : IntKind.i64.wrap ((mH : Int) - 1 - (i : Int)) = (ix : Int) := by rw [show (mH : Int) - 1 - (i : Int) = (ix : Int) by omega]; exact wrZ (by omega) (by omega)
              have bx : (ix : Int) < (mH : Int) := by omega
              clear hc hc' ev hix
              generalize nth A8 i = x at *
              go_wp2
              go_quiet (fail)
              go_wp2
              go_roundw
              case rel => exact ⟨i + 1, q + nq, by omega, by go_num, (by first | rfl | simp)⟩
              case measure => simp [intOf]; omega
            · obtain rfl : i = mH := by omega
              have t7 : decide ((i : Int) < (i : Int)) = false := by simp
              go_wp2
              go_ret
              exact ⟨rfl, K9.trans ((drewN_below W9 q).mono K9.size)⟩

theorem counts_any (ao : Option Addr) (n c : Nat) (zs : List Int) (z : Int) (w : World) (h : Rd w ao n zs) (hs : Sl ao n c) (z1 : -9223372036854775808 ≤ z) (z2 : z ≤ 9223372036854775807) :
    Calls Try.prog 3 #[.slice ao n c, .int .i64 z] w fun e w' => e = .returned (.bool true) ∧ Below w.heap.size w w' := by
  by_cases hn : 4096 < n
  · exact counts_long ao n c zs z w h hs z1 z2 hn
  · by_cases hb : ∃ k, k < n ∧ nth zs k < 0
    · exact counts_neg ao n c zs z w h hs z1 z2 (by omega) hb
    · have hp : ∀ k, k < n → 0 ≤ nth zs k := fun k hk => by
        by_cases e : nth zs k < 0
        · exact absurd ⟨k, hk, e⟩ hb
        · omega
      by_cases hF : mayF zs = 0
      · by_cases hz : z.natAbs ≤ 4096
        · by_cases hs0 : z < 0
          · exact counts_min ao n c zs z w h hs z1 z2 (by omega) hp hF hz hs0
          · exact counts_pos ao n c zs z w h hs z1 z2 (by omega) hp hF hz (by omega)
        · exact counts_out ao n c zs z w h hs z1 z2 (by omega) hp hF hz
      · exact counts_big ao n c zs z w h hs z1 z2 (by omega) hp hF
end Go.Proofs.Ytjnlkdeiccllgaa
