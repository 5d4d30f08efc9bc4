
/- Contracts of the sort that package seek hands its places to: two rising parts merged. -/

import Derived.Test.YtmepcenbaohcoaaGreatYB

import Derived.Deep.DeepCutAuto

namespace Go.Proofs.YtmepcenbaohcoaaGreat

open Go.RowKit

set_option linter.unusedVariables false

set_option maxHeartbeats 4000000 in
set_option maxRecDepth 20000 in
/-- The first part has one element alone. -/
theorem symL_any (g n a b N : Nat) (p q : Option Addr) (c : Int → Int → Int) (W w : World) (zs : List Int) (h : Ro g n W w zs) (hc : Cmp3 N c) (hq : CmpQ g N W p q c) (hN : inN N zs) (m : Nat) (ham : a + 1 = m) (hab : m < b) (hb : b ≤ n) (hn4 : n ≤ 5000) (hs : So c zs m b) (hl : Le2 zs a m b) :
    Calls Tryz.prog 111 #[.slice (some ⟨g, 0, none⟩) n n, .int .i64 (a : Nat), .int .i64 (m : Nat), .int .i64 (b : Nat), ordV p q] w fun e w' => (∃ v, e = .returned v) ∧ ∃ ys, Ro g n W w' ys ∧ PmQ zs ys a b ∧ So c ys a b := by
  unfold ordV
  have HC : Hid (Cmp3 N c) := hc
  have HQ : Hid (CmpQ g N W p q c) := hq
  have HNN : Hid (inN N zs) := hN
  have HZ : Hid (zs.length = n) := h.len
  have HS : Hid (So c zs m b) := hs
  have HLE : Hid (Le2 zs a m b) := hl
  have w0 : IntKind.i64.wrap ((m : Int) - (a : Int)) = 1 := (wrapIn _ (by omega)).trans (by omega)
  have za := hN a (by rw [h.len]; omega)
  clear hc hq hN hs hl
  go_enter Tryz.func111, Tryz.ntmps111
  go_wp2
  go_loopw [10, 11] (fun iv jv V => ∃ (i j : Nat), m ≤ i ∧ i ≤ j ∧ j ≤ b ∧ iv = .int .i64 (i : Nat) ∧ jv = .int .i64 (j : Nat) ∧ Ro g n W V zs ∧ (∀ k, m ≤ k → k < i → lx c (nth zs k) (nth zs a)) ∧ ∀ k, j ≤ k → k < b → lx c (nth zs a) (nth zs k)) (fun iv jv _ => (intOf jv).toNat - (intOf iv).toNat)
  case atStart => exact ⟨m, b, Nat.le_refl _, by omega, Nat.le_refl _, rfl, rfl, h, fun k k1 k2 => by omega, fun k k1 k2 => by omega⟩
  case round =>
    obtain ⟨i, j, mi, hij, jb, rfl, rfl, R, LO, HI⟩ := hrel
    by_cases hlt : i < j
    · obtain ⟨d, hd⟩ : ∃ d : Nat, d = (i + j) / 2 := ⟨_, rfl⟩
      have t1 : decide ((i : Int) < (j : Int)) = true := by simp; omega
      have wa := wrY (z := (i : Int) + (j : Int)) (by omega) (by omega)
      have ed : ((i : Int) + (j : Int)) / 2 = (d : Int) := by omega
      have wd := wrY (z := (d : Int) + 1) (by omega) (by omega)
      have bd1 : i ≤ d := by omega
      have bd2 : d < j := by omega
      have bd : (d : Int) < (n : Int) := by omega
      have ba : (a : Int) < (n : Int) := by omega
      have zd := HNN.out d (by rw [HZ.out]; omega)
      have zad := HLE.out a d (Nat.le_refl _) (by omega) (by omega) (by omega)
      clear hd
      have hcmp : ∀ V, Ro g n W V zs → Calls Tryz.prog 102 #[.int .i64 (nth zs d), .int .i64 (nth zs a), .pointer p, .pointer q] V fun e w' => e = .returned (.int .i64 (c (nth zs d) (nth zs a))) ∧ Ro g n W w' zs := fun V HV =>
        (HQ.out V HV.bel _ _ zd.1 zd.2 za.1 za.2).mono fun e w' ⟨e1, e2⟩ => ⟨e1, HV.below e2⟩
      have al : ∀ V, Ro g n W V zs → V.cell? ⟨g, d, none⟩ = some (.int .i64 (nth zs d)) ∧ V.cell? ⟨g, a, none⟩ = some (.int .i64 (nth zs a)) ∧ Ro g n W V zs := fun V HV => ⟨(HV.slot (by omega)).1, (HV.slot (by omega)).1, HV⟩
      by_cases hcc : c (nth zs d) (nth zs a) < 0
      · have d2 : decide (c (nth zs d) (nth zs a) < 0) = true := by simpa using hcc
        go_wp2
        go_region_held3 (fun V => V.cell? ⟨g, d, none⟩ = some (.int .i64 (nth zs d)) ∧ V.cell? ⟨g, a, none⟩ = some (.int .i64 (nth zs a)) ∧ Ro g n W V zs) (first | exact al _ (by assumption) | exact al _ (Ro.drew (by assumption)))
          (first
            | (go_at_call 102; (with_reducible refine (hcmp _ (‹_ ∧ _ ∧ Ro g n W _ zs›).2.2).mono ?_); rintro e w5 ⟨rfl, R5⟩))
        go_wp2
        go_roundw
        case rel =>
          refine ⟨d + 1, j, by omega, by omega, jb, by go_num, rfl, R5, fun k k1 k2 => ?_, HI⟩
          rcases Nat.lt_or_ge k d with hk | hk
          · exact lx_trans HC.out (HNN.out k (by rw [HZ.out]; omega)) zd za (HS.out k d k1 hk (by omega)) (.inl hcc)
          · obtain rfl : k = d := by omega
            exact .inl hcc
        case measure => simp [intOf]; omega
      · have d2 : decide (c (nth zs d) (nth zs a) < 0) = false := by simpa using hcc
        have hx : lx c (nth zs a) (nth zs d) := lx_not HC.out za zd zad hcc
        have HX : Hid (lx c (nth zs a) (nth zs d)) := hx
        clear hx hcc
        go_wp2
        go_region_held3 (fun V => V.cell? ⟨g, d, none⟩ = some (.int .i64 (nth zs d)) ∧ V.cell? ⟨g, a, none⟩ = some (.int .i64 (nth zs a)) ∧ Ro g n W V zs) (first | exact al _ (by assumption) | exact al _ (Ro.drew (by assumption)))
          (first
            | (go_at_call 102; (with_reducible refine (hcmp _ (‹_ ∧ _ ∧ Ro g n W _ zs›).2.2).mono ?_); rintro e w5 ⟨rfl, R5⟩))
        go_wp2
        go_roundw
        case rel =>
          refine ⟨i, d, mi, bd1, by omega, rfl, rfl, R5, LO, fun k k1 k2 => ?_⟩
          rcases Nat.lt_or_ge d k with hk | hk
          · exact lx_trans HC.out za zd (HNN.out k (by rw [HZ.out]; omega)) HX.out (HS.out d k (by omega) hk k2)
          · obtain rfl : k = d := by omega
            exact HX.out
        case measure => simp [intOf]; omega
    · obtain rfl : i = j := by omega
      have t1 : decide ((i : Int) < (i : Int)) = false := by simp
      obtain ⟨i1, hi1⟩ : ∃ i1 : Nat, i1 + 1 = i := ⟨i - 1, by omega⟩
      have wi : IntKind.i64.wrap ((i : Int) - 1) = (i1 : Int) := (wrapIn _ (by omega)).trans (by omega)
      have HH : Hid (i1 + 1 = i) := hi1
      have ai1 : a ≤ i1 := by omega
      have i1b : i1 < b := by omega
      clear hi1
      go_wp2
      go_loopw [13] (fun kv V => ∃ (k : Nat) (us : List Int), a ≤ k ∧ k ≤ i1 ∧ kv = .int .i64 (k : Nat) ∧ Ro g n W V us ∧ Mv zs us (lift1 a k)) (fun kv _ => i1 - (intOf kv).toNat)
      case atStart => exact ⟨a, zs, Nat.le_refl _, ai1, rfl, R, Mv.refl _ (lift1_self a)⟩
      case round =>
        obtain ⟨k, us, ka, ki, rfl, R2, M2⟩ := hrel
        by_cases hki : k < i1
        · have t2 : decide ((k : Int) < (i1 : Int)) = true := by simp; omega
          obtain ⟨k1, hk1⟩ : ∃ k1 : Nat, k1 = k + 1 := ⟨_, rfl⟩
          have wk : IntKind.i64.wrap ((k : Int) + 1) = (k1 : Int) := (wrapIn _ (by omega)).trans (by omega)
          have bk : (k : Int) < (n : Int) := by omega
          have bk1 : (k1 : Int) < (n : Int) := by omega
          have hkk : k < k1 := by omega
          have HK : Hid (k1 = k + 1) := hk1
          have S5 := R2.swap (i := k) (j := k1) (by omega) (by omega)
          obtain ⟨c1, f1⟩ := R2.slot (j := k) (by omega)
          obtain ⟨c2, f2⟩ := R2.slot (j := k1) (by omega)
          have MS := mv_sw1 (zs := us) (i := k) (j := k1) (by rw [R2.len]; omega) (by rw [R2.len]; omega)
          generalize hx : nth us k = x at *
          generalize hy : nth us k1 = y at *
          clear hx hy hk1
          go_wp2
          go_region
          all_goals
            go_wp2
            go_roundw
            case rel =>
              have e := HK.out
              subst e
              exact ⟨k + 1, _, by omega, by omega, by go_num, S5.drew, M2.trans MS (fun u => lift1_step ka u)⟩
            case measure => simp [intOf]; omega
        · obtain rfl : k = i1 := by omega
          have t2 : decide ((k : Int) < (k : Int)) = false := by simp
          go_wp2
          go_returns
          have ei := HH.out
          refine ⟨⟨_, rfl⟩, us, R2, M2.pm (fun u hu => by unfold lift1; rw [if_neg (by omega), if_neg (by omega)]) (fun u u1 u2 => by unfold lift1; split; omega; split <;> omega), ?_⟩
          exact lift_so HC.out HNN.out (by rw [HZ.out]; omega) ka i1b (by rw [ham]; exact HS.out) M2 (fun u u1 u2 => LO u (by omega) (by omega)) (fun u u1 u2 => HI u (by omega) u2)

set_option maxHeartbeats 4000000 in
set_option maxRecDepth 20000 in
/-- The second part has one element alone. -/
theorem symR_any (g n a b N : Nat) (p q : Option Addr) (c : Int → Int → Int) (W w : World) (zs : List Int) (h : Ro g n W w zs) (hc : Cmp3 N c) (hq : CmpQ g N W p q c) (hN : inN N zs) (m : Nat) (ham : a + 1 < m) (hab : m + 1 = b) (hb : b ≤ n) (hn4 : n ≤ 5000) (hs : So c zs a m) (hl : Le2 zs a m b) :
    Calls Tryz.prog 111 #[.slice (some ⟨g, 0, none⟩) n n, .int .i64 (a : Nat), .int .i64 (m : Nat), .int .i64 (b : Nat), ordV p q] w fun e w' => (∃ v, e = .returned v) ∧ ∃ ys, Ro g n W w' ys ∧ PmQ zs ys a b ∧ So c ys a b := by
  unfold ordV
  have HC : Hid (Cmp3 N c) := hc
  have HQ : Hid (CmpQ g N W p q c) := hq
  have HNN : Hid (inN N zs) := hN
  have HZ : Hid (zs.length = n) := h.len
  have HS : Hid (So c zs a m) := hs
  have HLE : Hid (Le2 zs a m b) := hl
  obtain ⟨am, ham2⟩ : ∃ am : Nat, a + am = m := ⟨m - a, by omega⟩
  have w0 : IntKind.i64.wrap ((m : Int) - (a : Int)) = (am : Int) := (wrapIn _ (by omega)).trans (by omega)
  have t0 : ((am : Int) == 1) = false := by simp; omega
  have w9 : IntKind.i64.wrap ((b : Int) - (m : Int)) = 1 := (wrapIn _ (by omega)).trans (by omega)
  have za := hN m (by rw [h.len]; omega)
  have HB : Hid (m + 1 = b) := hab
  have mb : m < b := by omega
  clear hc hq hN hs hl hab ham2
  go_enter Tryz.func111, Tryz.ntmps111
  go_wp2
  go_loopw [14, 15] (fun iv jv V => ∃ (i j : Nat), a ≤ i ∧ i ≤ j ∧ j ≤ m ∧ iv = .int .i64 (i : Nat) ∧ jv = .int .i64 (j : Nat) ∧ Ro g n W V zs ∧ (∀ k, a ≤ k → k < i → lx c (nth zs k) (nth zs m)) ∧ ∀ k, j ≤ k → k < m → lx c (nth zs m) (nth zs k)) (fun iv jv _ => (intOf jv).toNat - (intOf iv).toNat)
  case atStart => exact ⟨a, m, Nat.le_refl _, by omega, Nat.le_refl _, rfl, rfl, h, fun k k1 k2 => by omega, fun k k1 k2 => by omega⟩
  case round =>
    obtain ⟨i, j, mi, hij, jb, rfl, rfl, R, LO, HI⟩ := hrel
    by_cases hlt : i < j
    · obtain ⟨d, hd⟩ : ∃ d : Nat, d = (i + j) / 2 := ⟨_, rfl⟩
      have t1 : decide ((i : Int) < (j : Int)) = true := by simp; omega
      have wa := wrY (z := (i : Int) + (j : Int)) (by omega) (by omega)
      have ed : ((i : Int) + (j : Int)) / 2 = (d : Int) := by omega
      have wd := wrY (z := (d : Int) + 1) (by omega) (by omega)
      have bd1 : i ≤ d := by omega
      have bd2 : d < j := by omega
      have bd : (d : Int) < (n : Int) := by omega
      have ba : (m : Int) < (n : Int) := by omega
      have zd := HNN.out d (by rw [HZ.out]; omega)
      have zad := HLE.out d m (by omega) (by omega) (Nat.le_refl _) mb
      clear hd
      have hcmp : ∀ V, Ro g n W V zs → Calls Tryz.prog 102 #[.int .i64 (nth zs m), .int .i64 (nth zs d), .pointer p, .pointer q] V fun e w' => e = .returned (.int .i64 (c (nth zs m) (nth zs d))) ∧ Ro g n W w' zs := fun V HV =>
        (HQ.out V HV.bel _ _ za.1 za.2 zd.1 zd.2).mono fun e w' ⟨e1, e2⟩ => ⟨e1, HV.below e2⟩
      have al : ∀ V, Ro g n W V zs → V.cell? ⟨g, m, none⟩ = some (.int .i64 (nth zs m)) ∧ V.cell? ⟨g, d, none⟩ = some (.int .i64 (nth zs d)) ∧ Ro g n W V zs := fun V HV => ⟨(HV.slot (by omega)).1, (HV.slot (by omega)).1, HV⟩
      by_cases hcc : c (nth zs m) (nth zs d) < 0
      · have d2 : decide (c (nth zs m) (nth zs d) < 0) = true := by simpa using hcc
        go_wp2
        go_region_held3 (fun V => V.cell? ⟨g, m, none⟩ = some (.int .i64 (nth zs m)) ∧ V.cell? ⟨g, d, none⟩ = some (.int .i64 (nth zs d)) ∧ Ro g n W V zs) (first | exact al _ (by assumption) | exact al _ (Ro.drew (by assumption)))
          (first
            | (go_at_call 102; (with_reducible refine (hcmp _ (‹_ ∧ _ ∧ Ro g n W _ zs›).2.2).mono ?_); rintro e w5 ⟨rfl, R5⟩))
        go_wp2
        go_roundw
        case rel =>
          refine ⟨i, d, mi, bd1, by omega, rfl, rfl, R5, LO, fun k k1 k2 => ?_⟩
          rcases Nat.lt_or_ge d k with hk | hk
          · exact lx_trans HC.out za zd (HNN.out k (by rw [HZ.out]; omega)) (.inl hcc) (HS.out d k (by omega) hk k2)
          · obtain rfl : k = d := by omega
            exact .inl hcc
        case measure => simp [intOf]; omega
      · have d2 : decide (c (nth zs m) (nth zs d) < 0) = false := by simpa using hcc
        have hx : lx c (nth zs d) (nth zs m) := lx_not HC.out zd za zad hcc
        have HX : Hid (lx c (nth zs d) (nth zs m)) := hx
        clear hx hcc
        go_wp2
        go_region_held3 (fun V => V.cell? ⟨g, m, none⟩ = some (.int .i64 (nth zs m)) ∧ V.cell? ⟨g, d, none⟩ = some (.int .i64 (nth zs d)) ∧ Ro g n W V zs) (first | exact al _ (by assumption) | exact al _ (Ro.drew (by assumption)))
          (first
            | (go_at_call 102; (with_reducible refine (hcmp _ (‹_ ∧ _ ∧ Ro g n W _ zs›).2.2).mono ?_); rintro e w5 ⟨rfl, R5⟩))
        go_wp2
        go_roundw
        case rel =>
          refine ⟨d + 1, j, by omega, by omega, jb, by go_num, rfl, R5, fun k k1 k2 => ?_, HI⟩
          rcases Nat.lt_or_ge k d with hk | hk
          · exact lx_trans HC.out (HNN.out k (by rw [HZ.out]; omega)) zd za (HS.out k d k1 hk (by omega)) HX.out
          · obtain rfl : k = d := by omega
            exact HX.out
        case measure => simp [intOf]; omega
    · obtain rfl : i = j := by omega
      have t1 : decide ((i : Int) < (i : Int)) = false := by simp
      go_wp2
      go_loopw [17] (fun kv V => ∃ (k : Nat) (us : List Int), i ≤ k ∧ k ≤ m ∧ kv = .int .i64 (k : Nat) ∧ Ro g n W V us ∧ Mv zs us (sink k m)) (fun kv _ => (intOf kv).toNat)
      case atStart => exact ⟨m, zs, jb, Nat.le_refl _, rfl, R, Mv.refl _ (sink_self m)⟩
      case round =>
        obtain ⟨k, us, ka, ki, rfl, R2, M2⟩ := hrel
        by_cases hki : i < k
        · have t2 : decide ((i : Int) < (k : Int)) = true := by simp; omega
          obtain ⟨k1, hk1⟩ : ∃ k1 : Nat, k1 + 1 = k := ⟨k - 1, by omega⟩
          have wk : IntKind.i64.wrap ((k : Int) - 1) = (k1 : Int) := (wrapIn _ (by omega)).trans (by omega)
          have bk : (k : Int) < (n : Int) := by omega
          have bk1 : (k1 : Int) < (n : Int) := by omega
          have hkk : k1 < k := by omega
          have HK : Hid (k1 + 1 = k) := hk1
          have S5 := R2.swap (i := k) (j := k1) (by omega) (by omega)
          obtain ⟨c1, f1⟩ := R2.slot (j := k) (by omega)
          obtain ⟨c2, f2⟩ := R2.slot (j := k1) (by omega)
          have MS := mv_sw1 (zs := us) (i := k) (j := k1) (by rw [R2.len]; omega) (by rw [R2.len]; omega)
          generalize hx : nth us k = x at *
          generalize hy : nth us k1 = y at *
          clear hx hy hk1
          go_wp2
          go_region
          all_goals
            go_wp2
            go_roundw
            case rel =>
              have e := HK.out
              subst e
              exact ⟨k1, _, by omega, by omega, rfl, S5.drew, M2.trans MS (fun u => sink_step ki u)⟩
            case measure => simp [intOf]; omega
        · obtain rfl : k = i := by omega
          have t2 : decide ((k : Int) < (k : Int)) = false := by simp
          go_wp2
          go_returns
          have eb := HB.out
          subst eb
          refine ⟨⟨_, rfl⟩, us, R2, M2.pm (fun u hu => by unfold sink; rw [if_neg (by omega), if_neg (by omega)]) (fun u u1 u2 => by unfold sink; split; omega; split <;> omega), ?_⟩
          exact sink_so HC.out HNN.out (by rw [HZ.out]; omega) mi ki HS.out M2 LO HI
end Go.Proofs.YtmepcenbaohcoaaGreat
