
/- The document's letters of all kids. -/

import Derived.Test.YtiahilelcppfgaaGreatSJ

import Derived.Test.YtiahilelcppfgaaGreatTH0

import Derived.Test.YtiahilelcppfgaaGreatTJ

import Derived.Test.YtiahilelcppfgaaGreatYTr

namespace Go.Proofs.YtiahilelcppfgaaGreat

open Go.RowKit

set_option linter.unusedVariables false

set_option linter.unusedSimpArgs false in
set_option maxRecDepth 100000 in
set_option maxHeartbeats 4000000 in
/-- A letter with a plus: any number of it. -/
theorem rall_plus (p : Nat) (s : ByteArray) (hs2 : s.size = 2) (hb0 : bt s 0 = ltr p) (hb1 : bt s 1 = 43) (h1 : 1 ≤ p) (h5 : p ≤ 5) (ko : Option Addr) (n kc : Nat) (g : Nat → Int × ByteArray) (w : World) (hk : Kf w ko n g) :
    Calls Tryz.prog 72 #[.slice ko n kc, .string s] w fun e w' => e = .returned (.bool (kallB p n g)) ∧ Below w.heap.size w w' := by
  have hx0 : ∀ W, (Instr.index 9 (.string s) (.int .i64 0)).run Tryz.prog W = .ok (.int .u8 (ltr p)) W := fun W => by rw [← hb0]; exact idx_str s 0 (by omega) W
  have hx1 : ∀ W, (Instr.index 9 (.string s) (.int .i64 1)).run Tryz.prog W = .ok (.int .u8 43) W := fun W => by rw [← hb1]; exact idx_str s 1 (by omega) W
  have hs1 : decide ((1 : Int) < (s.size : Int)) = true := by simp; omega
  have hroom := hk.room
  obtain ⟨ask, hask⟩ : ∃ ask : Nat → Bool, ∀ i, ask i = askB p (g i).1 (g i).2 := ⟨_, fun _ => rfl⟩
  have HKA : kallB p n g = pall ask n := by rw [show ask = fun i => askB p (g i).1 (g i).2 from funext hask]; rfl
  rw [HKA]
  have HK : Hid (Kf w ko n g) := hk
  have HPS : Hid (1 ≤ p ∧ p ≤ 5) := ⟨h1, h5⟩
  clear hk HKA h1 h5 hb0 hb1 hs2
  go_enter Tryz.func72, Tryz.ntmps72
  go_wp2
  go_loopw [6] (fun iv V => ∃ j : Nat, j ≤ n ∧ iv = .int .i64 (j : Nat) ∧ Hid (∀ i, i < j → ask i = true) ∧ Below w.heap.size w V) (fun iv _ => n - (intOf iv).toNat)
  case atStart => exact ⟨0, Nat.zero_le _, rfl, fun i h => absurd h (Nat.not_lt_zero _), Below.refl _ _⟩
  case round =>
    obtain ⟨j, hj, rfl, HJ, B⟩ := hrel
    by_cases hlt : j < n
    · have t3 : decide ((j : Int) < (n : Int)) = true := by simp; omega
      have bj : (j : Int) < (n : Int) := by omega
      obtain ⟨b, off, rfl, hb, hc⟩ := HK.out.cells (by omega)
      obtain ⟨n1, xo, xn, xc, zo, zn, zc, uo, un, uc, x0, x1, x2, x3, x4, x5⟩ := hc j hlt
      have HS : Hid (∀ V, Below w.heap.size w V → V.cell? ⟨b, off + j * 6, none⟩ = some (.int .i64 (g j).1) ∧ V.cell? ⟨b, off + j * 6 + 1, none⟩ = some (.string (g j).2) ∧ V.cell? ⟨b, off + j * 6 + 2, none⟩ = some (.int .i64 n1) ∧ V.cell? ⟨b, off + j * 6 + 3, none⟩ = some (.slice xo xn xc) ∧ V.cell? ⟨b, off + j * 6 + 4, none⟩ = some (.slice zo zn zc) ∧ V.cell? ⟨b, off + j * 6 + 5, none⟩ = some (.slice uo un uc)) := fun V bV => ⟨(bV.cell (p := ⟨b, off + j * 6, none⟩) hb).trans x0, (bV.cell (p := ⟨b, off + j * 6 + 1, none⟩) hb).trans x1, (bV.cell (p := ⟨b, off + j * 6 + 2, none⟩) hb).trans x2, (bV.cell (p := ⟨b, off + j * 6 + 3, none⟩) hb).trans x3, (bV.cell (p := ⟨b, off + j * 6 + 4, none⟩) hb).trans x4, (bV.cell (p := ⟨b, off + j * 6 + 5, none⟩) hb).trans x5⟩
      have HQ : Hid (ask j = askB p (g j).1 (g j).2) := hask j
      have HP : Hid (1 ≤ p ∧ p ≤ 5) := HPS.out
      clear x0 x1 x2 x3 x4 x5 hc
      generalize (g j).1 = k1 at *
      generalize (g j).2 = t1 at *
      generalize p = q at *
      have HS0 := HS.out wr B
      have HS1 := HS.out wr.drew B.drew
      have hf := fun V => rfits_any q HP.out.1 HP.out.2 k1 n1 t1 xo zo uo xn xc zn zc un uc V
      generalize askB q k1 t1 = A at *
      go_upto_region 8 with fail
      refine wp_region_R (fun V => V.cell? ⟨b, off + j * 6, none⟩ = some (.int .i64 k1) ∧ V.cell? ⟨b, off + j * 6 + 1, none⟩ = some (.string t1) ∧ V.cell? ⟨b, off + j * 6 + 2, none⟩ = some (.int .i64 n1) ∧ V.cell? ⟨b, off + j * 6 + 3, none⟩ = some (.slice xo xn xc) ∧ V.cell? ⟨b, off + j * 6 + 4, none⟩ = some (.slice zo zn zc) ∧ V.cell? ⟨b, off + j * 6 + 5, none⟩ = some (.slice uo un uc)) (fun _ => true) (by kernel_rfl) ?_
      refine wpAnyR_take (i := 0) (v := .slice (some ⟨b, off, none⟩) n kc) rfl (by kernel_rfl) (by kernel_rfl) (by kernel_rfl) (by kernel_rfl) (fun _ _ _ h => h) (Or.inl ⟨by rfl, fun V hV => ?_⟩) ?_ ?_
      · obtain ⟨g0, g1, g2, g3, g4, g5⟩ := hV
        go_simp
      · exact HS0
      conv => arg 9; simp [Act.put]
      refine wpAnyR_take (i := 1) (v := .int .i64 (j : Nat)) rfl (by kernel_rfl) (by kernel_rfl) (by kernel_rfl) (by kernel_rfl) (fun _ _ _ h => h) (Or.inl ⟨by rfl, fun V hV => ?_⟩) ?_ ?_
      · obtain ⟨g0, g1, g2, g3, g4, g5⟩ := hV
        go_simp
      · exact HS0
      conv => arg 9; simp [Act.put]
      refine wpAnyR_take (i := 2) (v := .pointer (some ⟨b, off + j * 6, none⟩)) rfl (by kernel_rfl) (by kernel_rfl) (by kernel_rfl) (by kernel_rfl) (fun _ _ _ h => h) (Or.inl ⟨by rfl, fun V hV => ?_⟩) ?_ ?_
      · obtain ⟨g0, g1, g2, g3, g4, g5⟩ := hV
        go_simp
      · exact HS0
      conv => arg 9; simp [Act.put]
      refine wpAnyR_take (i := 3) (v := .agg #[.int .i64 k1, .string t1, .int .i64 n1, .slice xo xn xc, .slice zo zn zc, .slice uo un uc]) rfl (by kernel_rfl) (by kernel_rfl) (by kernel_rfl) (by kernel_rfl) (fun _ _ _ h => h) (Or.inl ⟨by rfl, fun V hV => ?_⟩) ?_ ?_
      · obtain ⟨g0, g1, g2, g3, g4, g5⟩ := hV
        go_simp
      · exact HS0
      conv => arg 9; simp [Act.put]
      refine wpAnyR_take (i := 4) (v := .string s) rfl (by kernel_rfl) (by kernel_rfl) (by kernel_rfl) (by kernel_rfl) (fun _ _ _ h => h) (Or.inl ⟨by rfl, fun V hV => ?_⟩) ?_ ?_
      · obtain ⟨g0, g1, g2, g3, g4, g5⟩ := hV
        go_simp
      · exact HS0
      conv => arg 9; simp [Act.put]
      refine wpAnyR_take (i := 5) (v := .int .u8 (ltr q)) rfl (by kernel_rfl) (by kernel_rfl) (by kernel_rfl) (by kernel_rfl) (fun _ _ _ h => h) (Or.inl ⟨by rfl, fun V hV => ?_⟩) ?_ ?_
      · obtain ⟨g0, g1, g2, g3, g4, g5⟩ := hV
        go_simp
      · exact HS0
      conv => arg 9; simp [Act.put]
      refine wpAnyR_one (i := 6) (by kernel_rfl) rfl (fun K hK => ?_)
      go_simp
      go_at_call 107
      with_reducible refine (hf _).mono ?_
      rintro e w5 ⟨rfl, b5⟩
      have B5 := B.drew.trans (b5.mono B.size)
      refine hK _ _ ⟨fun _ => HS.out w5 B5, ?_⟩
      clear hK
      (try (conv => arg 9; simp [Act.put]))
      refine wpAnyR_one (i := 7) (by kernel_rfl) rfl (fun K hK => ?_)
      go_simp
      refine hK _ _ ⟨fun _ => HS.out w5 B5, ?_⟩
      clear hK
      refine wpAnyR_done (by kernel_rfl) ?_ _
      clear HS0 HS1 HS b5 hf
      cases A
      · have HNO : Hid (pall ask n = false) := pall_no hlt HQ.out
        go_wp2
        go_ret
        exact ⟨ret_bool (HNO.out.symm), B5⟩
      · have HQT : Hid (ask j = true) := HQ.out
        go_wp2
        go_roundw
        case rel => exact ⟨j + 1, by omega, by go_num, fun i hi => by by_cases e : i = j; (· subst e; exact HQT.out); exact HJ.out i (by omega), B5⟩
        case measure => simp [intOf]; omega
    · obtain rfl : j = n := by omega
      have t3 : decide ((j : Int) < (j : Int)) = false := by simp
      skip
      skip
      skip
      have HYE : Hid (pall ask j = true) := (pall_iff _ _).2 HJ.out
      go_wp2
      go_ret
      exact ⟨ret_bool (HYE.out.symm), B⟩
set_option linter.unusedSimpArgs false in
set_option maxRecDepth 100000 in
set_option maxHeartbeats 4000000 in
/-- A letter with a star: from 2 to 17 of it. -/
theorem rall_star (p : Nat) (s : ByteArray) (hs2 : s.size = 2) (hb0 : bt s 0 = ltr p) (hb1 : bt s 1 = 42) (h1 : 1 ≤ p) (h5 : p ≤ 5) (ko : Option Addr) (n kc : Nat) (g : Nat → Int × ByteArray) (w : World) (hk : Kf w ko n g) :
    Calls Tryz.prog 72 #[.slice ko n kc, .string s] w fun e w' => e = .returned (.bool (decide (2 ≤ n) && (decide (n ≤ 17) && kallB p n g))) ∧ Below w.heap.size w w' := by
  have hx0 : ∀ W, (Instr.index 9 (.string s) (.int .i64 0)).run Tryz.prog W = .ok (.int .u8 (ltr p)) W := fun W => by rw [← hb0]; exact idx_str s 0 (by omega) W
  have hx1 : ∀ W, (Instr.index 9 (.string s) (.int .i64 1)).run Tryz.prog W = .ok (.int .u8 42) W := fun W => by rw [← hb1]; exact idx_str s 1 (by omega) W
  have hs1 : decide ((1 : Int) < (s.size : Int)) = true := by simp; omega
  have hroom := hk.room
  obtain ⟨ask, hask⟩ : ∃ ask : Nat → Bool, ∀ i, ask i = askB p (g i).1 (g i).2 := ⟨_, fun _ => rfl⟩
  have HKA : kallB p n g = pall ask n := by rw [show ask = fun i => askB p (g i).1 (g i).2 from funext hask]; rfl
  rw [HKA]
  have HK : Hid (Kf w ko n g) := hk
  have HPS : Hid (1 ≤ p ∧ p ≤ 5) := ⟨h1, h5⟩
  clear hk HKA h1 h5 hb0 hb1 hs2
  by_cases h2 : n < 2
  · have e2 : decide ((n : Int) < 2) = true := by simp; omega
    have d2 : decide (2 ≤ n) = false := by simp; omega
    rw [d2, Bool.false_and]
    clear h2 d2
    go_enter Tryz.func72, Tryz.ntmps72
    go_wp2
    go_ret
    exact ⟨rfl, Below.refl _ _⟩
  have e2 : decide ((n : Int) < 2) = false := by simp; omega
  have d2 : decide (2 ≤ n) = true := by simp; omega
  rw [d2, Bool.true_and]
  clear h2 d2
  by_cases h7 : 17 < n
  · have e3 : decide ((17 : Int) < (n : Int)) = true := by simp; omega
    have d3 : decide (n ≤ 17) = false := by simp; omega
    rw [d3, Bool.false_and]
    clear h7 d3
    go_enter Tryz.func72, Tryz.ntmps72
    go_wp2
    go_ret
    exact ⟨rfl, Below.refl _ _⟩
  have e3 : decide ((17 : Int) < (n : Int)) = false := by simp; omega
  have d3 : decide (n ≤ 17) = true := by simp; omega
  rw [d3, Bool.true_and]
  clear h7 d3
  go_enter Tryz.func72, Tryz.ntmps72
  go_wp2
  go_loopw [6] (fun iv V => ∃ j : Nat, j ≤ n ∧ iv = .int .i64 (j : Nat) ∧ Hid (∀ i, i < j → ask i = true) ∧ Below w.heap.size w V) (fun iv _ => n - (intOf iv).toNat)
  case atStart => exact ⟨0, Nat.zero_le _, rfl, fun i h => absurd h (Nat.not_lt_zero _), Below.refl _ _⟩
  case round =>
    obtain ⟨j, hj, rfl, HJ, B⟩ := hrel
    by_cases hlt : j < n
    · have t3 : decide ((j : Int) < (n : Int)) = true := by simp; omega
      have bj : (j : Int) < (n : Int) := by omega
      obtain ⟨b, off, rfl, hb, hc⟩ := HK.out.cells (by omega)
      obtain ⟨n1, xo, xn, xc, zo, zn, zc, uo, un, uc, x0, x1, x2, x3, x4, x5⟩ := hc j hlt
      have HS : Hid (∀ V, Below w.heap.size w V → V.cell? ⟨b, off + j * 6, none⟩ = some (.int .i64 (g j).1) ∧ V.cell? ⟨b, off + j * 6 + 1, none⟩ = some (.string (g j).2) ∧ V.cell? ⟨b, off + j * 6 + 2, none⟩ = some (.int .i64 n1) ∧ V.cell? ⟨b, off + j * 6 + 3, none⟩ = some (.slice xo xn xc) ∧ V.cell? ⟨b, off + j * 6 + 4, none⟩ = some (.slice zo zn zc) ∧ V.cell? ⟨b, off + j * 6 + 5, none⟩ = some (.slice uo un uc)) := fun V bV => ⟨(bV.cell (p := ⟨b, off + j * 6, none⟩) hb).trans x0, (bV.cell (p := ⟨b, off + j * 6 + 1, none⟩) hb).trans x1, (bV.cell (p := ⟨b, off + j * 6 + 2, none⟩) hb).trans x2, (bV.cell (p := ⟨b, off + j * 6 + 3, none⟩) hb).trans x3, (bV.cell (p := ⟨b, off + j * 6 + 4, none⟩) hb).trans x4, (bV.cell (p := ⟨b, off + j * 6 + 5, none⟩) hb).trans x5⟩
      have HQ : Hid (ask j = askB p (g j).1 (g j).2) := hask j
      have HP : Hid (1 ≤ p ∧ p ≤ 5) := HPS.out
      clear x0 x1 x2 x3 x4 x5 hc
      generalize (g j).1 = k1 at *
      generalize (g j).2 = t1 at *
      generalize p = q at *
      have HS0 := HS.out wr B
      have HS1 := HS.out wr.drew B.drew
      have hf := fun V => rfits_any q HP.out.1 HP.out.2 k1 n1 t1 xo zo uo xn xc zn zc un uc V
      generalize askB q k1 t1 = A at *
      go_upto_region 8 with fail
      refine wp_region_R (fun V => V.cell? ⟨b, off + j * 6, none⟩ = some (.int .i64 k1) ∧ V.cell? ⟨b, off + j * 6 + 1, none⟩ = some (.string t1) ∧ V.cell? ⟨b, off + j * 6 + 2, none⟩ = some (.int .i64 n1) ∧ V.cell? ⟨b, off + j * 6 + 3, none⟩ = some (.slice xo xn xc) ∧ V.cell? ⟨b, off + j * 6 + 4, none⟩ = some (.slice zo zn zc) ∧ V.cell? ⟨b, off + j * 6 + 5, none⟩ = some (.slice uo un uc)) (fun _ => true) (by kernel_rfl) ?_
      refine wpAnyR_take (i := 0) (v := .slice (some ⟨b, off, none⟩) n kc) rfl (by kernel_rfl) (by kernel_rfl) (by kernel_rfl) (by kernel_rfl) (fun _ _ _ h => h) (Or.inl ⟨by rfl, fun V hV => ?_⟩) ?_ ?_
      · obtain ⟨g0, g1, g2, g3, g4, g5⟩ := hV
        go_simp
      · exact HS0
      conv => arg 9; simp [Act.put]
      refine wpAnyR_take (i := 1) (v := .int .i64 (j : Nat)) rfl (by kernel_rfl) (by kernel_rfl) (by kernel_rfl) (by kernel_rfl) (fun _ _ _ h => h) (Or.inl ⟨by rfl, fun V hV => ?_⟩) ?_ ?_
      · obtain ⟨g0, g1, g2, g3, g4, g5⟩ := hV
        go_simp
      · exact HS0
      conv => arg 9; simp [Act.put]
      refine wpAnyR_take (i := 2) (v := .pointer (some ⟨b, off + j * 6, none⟩)) rfl (by kernel_rfl) (by kernel_rfl) (by kernel_rfl) (by kernel_rfl) (fun _ _ _ h => h) (Or.inl ⟨by rfl, fun V hV => ?_⟩) ?_ ?_
      · obtain ⟨g0, g1, g2, g3, g4, g5⟩ := hV
        go_simp
      · exact HS0
      conv => arg 9; simp [Act.put]
      refine wpAnyR_take (i := 3) (v := .agg #[.int .i64 k1, .string t1, .int .i64 n1, .slice xo xn xc, .slice zo zn zc, .slice uo un uc]) rfl (by kernel_rfl) (by kernel_rfl) (by kernel_rfl) (by kernel_rfl) (fun _ _ _ h => h) (Or.inl ⟨by rfl, fun V hV => ?_⟩) ?_ ?_
      · obtain ⟨g0, g1, g2, g3, g4, g5⟩ := hV
        go_simp
      · exact HS0
      conv => arg 9; simp [Act.put]
      refine wpAnyR_take (i := 4) (v := .string s) rfl (by kernel_rfl) (by kernel_rfl) (by kernel_rfl) (by kernel_rfl) (fun _ _ _ h => h) (Or.inl ⟨by rfl, fun V hV => ?_⟩) ?_ ?_
      · obtain ⟨g0, g1, g2, g3, g4, g5⟩ := hV
        go_simp
      · exact HS0
      conv => arg 9; simp [Act.put]
      refine wpAnyR_take (i := 5) (v := .int .u8 (ltr q)) rfl (by kernel_rfl) (by kernel_rfl) (by kernel_rfl) (by kernel_rfl) (fun _ _ _ h => h) (Or.inl ⟨by rfl, fun V hV => ?_⟩) ?_ ?_
      · obtain ⟨g0, g1, g2, g3, g4, g5⟩ := hV
        go_simp
      · exact HS0
      conv => arg 9; simp [Act.put]
      refine wpAnyR_one (i := 6) (by kernel_rfl) rfl (fun K hK => ?_)
      go_simp
      go_at_call 107
      with_reducible refine (hf _).mono ?_
      rintro e w5 ⟨rfl, b5⟩
      have B5 := B.drew.trans (b5.mono B.size)
      refine hK _ _ ⟨fun _ => HS.out w5 B5, ?_⟩
      clear hK
      (try (conv => arg 9; simp [Act.put]))
      refine wpAnyR_one (i := 7) (by kernel_rfl) rfl (fun K hK => ?_)
      go_simp
      refine hK _ _ ⟨fun _ => HS.out w5 B5, ?_⟩
      clear hK
      refine wpAnyR_done (by kernel_rfl) ?_ _
      clear HS0 HS1 HS b5 hf
      cases A
      · have HNO : Hid (pall ask n = false) := pall_no hlt HQ.out
        go_wp2
        go_ret
        exact ⟨ret_bool (HNO.out.symm), B5⟩
      · have HQT : Hid (ask j = true) := HQ.out
        go_wp2
        go_roundw
        case rel => exact ⟨j + 1, by omega, by go_num, fun i hi => by by_cases e : i = j; (· subst e; exact HQT.out); exact HJ.out i (by omega), B5⟩
        case measure => simp [intOf]; omega
    · obtain rfl : j = n := by omega
      have t3 : decide ((j : Int) < (j : Int)) = false := by simp
      skip
      skip
      skip
      have HYE : Hid (pall ask j = true) := (pall_iff _ _).2 HJ.out
      go_wp2
      go_ret
      exact ⟨ret_bool (HYE.out.symm), B⟩
set_option linter.unusedSimpArgs false in
set_option maxRecDepth 100000 in
set_option maxHeartbeats 4000000 in
/-- Letters, one a kid. -/
theorem rall_plain (ps : List Nat) (s : ByteArray) (hs : s.size = ps.length) (hbt : ∀ i, i < ps.length → bt s i = ltr (ps.getD i 0)) (hps : ∀ i, i < ps.length → 1 ≤ ps.getD i 0 ∧ ps.getD i 0 ≤ 5) (ko : Option Addr) (n kc : Nat) (g : Nat → Int × ByteArray) (w : World) (hk : Kf w ko n g) :
    Calls Tryz.prog 72 #[.slice ko n kc, .string s] w fun e w' => e = .returned (.bool (kaB ps n g)) ∧ Below w.heap.size w w' := by
  have hroom := hk.room
  obtain ⟨ask, hask⟩ : ∃ ask : Nat → Bool, ∀ i, ask i = askB (ps.getD i 0) (g i).1 (g i).2 := ⟨_, fun _ => rfl⟩
  have HKA : kaB ps n g = (decide (n = ps.length) && pall ask n) := by rw [show ask = fun i => askB (ps.getD i 0) (g i).1 (g i).2 from funext hask]; rfl
  rw [HKA]
  have HK : Hid (Kf w ko n g) := hk
  have HPS : Hid (∀ i, i < ps.length → 1 ≤ ps.getD i 0 ∧ ps.getD i 0 ≤ 5) := hps
  have HBT : Hid (∀ i, i < ps.length → bt s i = ltr (ps.getD i 0)) := hbt
  have HS3 : Hid (s.size = ps.length) := hs
  have hl : ∀ p : Nat, ltr p ≠ 42 ∧ ltr p ≠ 43 := fun p => by unfold ltr; split <;> (try split) <;> (try split) <;> (try split) <;> decide
  obtain ⟨c1, hc1⟩ : ∃ c1, c1 = bt s 1 := ⟨_, rfl⟩
  have hone : (decide ((1 : Int) < (s.size : Int)) = false) ∨ (decide ((1 : Int) < (s.size : Int)) = true ∧ (∀ W, (Instr.index 9 (.string s) (.int .i64 1)).run Tryz.prog W = .ok (.int .u8 c1) W) ∧ (c1 == 42) = false ∧ (c1 == 43) = false ∧ ¬ c1 = 42 ∧ ¬ c1 = 43) := by
    by_cases h : 1 < s.size
    · refine .inr ⟨by simp; omega, fun W => by rw [hc1]; exact idx_str s 1 h W, ?_⟩
      have := hl (ps.getD 1 0)
      rw [← hbt 1 (by omega), ← hc1] at this
      exact ⟨by simp [this.1], by simp [this.2], this.1, this.2⟩
    · exact .inl (by simp; omega)
  clear hk HKA hps hbt hl hc1
  by_cases hn : n = s.size
  · have d0 : decide (n = ps.length) = true := by simp; omega
    rw [d0, Bool.true_and]
    have HSZ : Hid (s.size = n) := hn.symm
    have HPS : Hid (∀ i, i < n → 1 ≤ ps.getD i 0 ∧ ps.getD i 0 ≤ 5) := fun i hi => HPS.out i (by omega)
    have HBT : Hid (∀ i, i < n → bt s i = ltr (ps.getD i 0)) := fun i hi => HBT.out i (by omega)
    have e0 : ((n : Int) != (s.size : Int)) = false := by simp; omega
    clear hn d0 HS3 hs
    rcases hone with h1 | ⟨h1, hx1, q1, q2, q3, q4⟩
    · go_enter Tryz.func72, Tryz.ntmps72
      go_wp2
      go_loopw [7] (fun iv V => ∃ j : Nat, j ≤ n ∧ iv = .int .i64 (j : Nat) ∧ Hid (∀ i, i < j → ask i = true) ∧ Below w.heap.size w V) (fun iv _ => n - (intOf iv).toNat)
      case atStart => exact ⟨0, Nat.zero_le _, rfl, fun i h => absurd h (Nat.not_lt_zero _), Below.refl _ _⟩
      case round =>
        obtain ⟨j, hj, rfl, HJ, B⟩ := hrel
        by_cases hlt : j < n
        · have t3 : decide ((j : Int) < (s.size : Int)) = true := by have := HSZ.out; simp; omega
          have bj : (j : Int) < (n : Int) := by omega
          obtain ⟨b, off, rfl, hb, hc⟩ := HK.out.cells (by omega)
          obtain ⟨n1, xo, xn, xc, zo, zn, zc, uo, un, uc, x0, x1, x2, x3, x4, x5⟩ := hc j hlt
          have HS : Hid (∀ V, Below w.heap.size w V → V.cell? ⟨b, off + j * 6, none⟩ = some (.int .i64 (g j).1) ∧ V.cell? ⟨b, off + j * 6 + 1, none⟩ = some (.string (g j).2) ∧ V.cell? ⟨b, off + j * 6 + 2, none⟩ = some (.int .i64 n1) ∧ V.cell? ⟨b, off + j * 6 + 3, none⟩ = some (.slice xo xn xc) ∧ V.cell? ⟨b, off + j * 6 + 4, none⟩ = some (.slice zo zn zc) ∧ V.cell? ⟨b, off + j * 6 + 5, none⟩ = some (.slice uo un uc)) := fun V bV => ⟨(bV.cell (p := ⟨b, off + j * 6, none⟩) hb).trans x0, (bV.cell (p := ⟨b, off + j * 6 + 1, none⟩) hb).trans x1, (bV.cell (p := ⟨b, off + j * 6 + 2, none⟩) hb).trans x2, (bV.cell (p := ⟨b, off + j * 6 + 3, none⟩) hb).trans x3, (bV.cell (p := ⟨b, off + j * 6 + 4, none⟩) hb).trans x4, (bV.cell (p := ⟨b, off + j * 6 + 5, none⟩) hb).trans x5⟩
          have HQ : Hid (ask j = askB (ps.getD j 0) (g j).1 (g j).2) := hask j
          have HP : Hid (1 ≤ ps.getD j 0 ∧ ps.getD j 0 ≤ 5) := HPS.out j (by omega)
          have bjs : (j : Int) < (s.size : Int) := by have := HSZ.out; omega
          have hix : ∀ W, (Instr.index 9 (.string s) (.int .i64 (j : Nat))).run Tryz.prog W = .ok (.int .u8 (ltr (ps.getD j 0))) W := fun W => by rw [← HBT.out j (by omega)]; exact idx_str s j (by omega) W
          clear x0 x1 x2 x3 x4 x5 hc
          generalize (g j).1 = k1 at *
          generalize (g j).2 = t1 at *
          generalize ps.getD j 0 = q at *
          have HS0 := HS.out wr B
          have HS1 := HS.out wr.drew B.drew
          have hf := fun V => rfits_any q HP.out.1 HP.out.2 k1 n1 t1 xo zo uo xn xc zn zc un uc V
          generalize askB q k1 t1 = A at *
          go_upto_region 16 with fail
          refine wp_region_R (fun V => V.cell? ⟨b, off + j * 6, none⟩ = some (.int .i64 k1) ∧ V.cell? ⟨b, off + j * 6 + 1, none⟩ = some (.string t1) ∧ V.cell? ⟨b, off + j * 6 + 2, none⟩ = some (.int .i64 n1) ∧ V.cell? ⟨b, off + j * 6 + 3, none⟩ = some (.slice xo xn xc) ∧ V.cell? ⟨b, off + j * 6 + 4, none⟩ = some (.slice zo zn zc) ∧ V.cell? ⟨b, off + j * 6 + 5, none⟩ = some (.slice uo un uc)) (fun _ => true) (by kernel_rfl) ?_
          refine wpAnyR_take (i := 0) (v := .slice (some ⟨b, off, none⟩) n kc) rfl (by kernel_rfl) (by kernel_rfl) (by kernel_rfl) (by kernel_rfl) (fun _ _ _ h => h) (Or.inl ⟨by rfl, fun V hV => ?_⟩) ?_ ?_
          · obtain ⟨g0, g1, g2, g3, g4, g5⟩ := hV
            go_simp
          · exact HS0
          conv => arg 9; simp [Act.put]
          refine wpAnyR_take (i := 1) (v := .int .i64 (j : Nat)) rfl (by kernel_rfl) (by kernel_rfl) (by kernel_rfl) (by kernel_rfl) (fun _ _ _ h => h) (Or.inl ⟨by rfl, fun V hV => ?_⟩) ?_ ?_
          · obtain ⟨g0, g1, g2, g3, g4, g5⟩ := hV
            go_simp
          · exact HS0
          conv => arg 9; simp [Act.put]
          refine wpAnyR_take (i := 2) (v := .pointer (some ⟨b, off + j * 6, none⟩)) rfl (by kernel_rfl) (by kernel_rfl) (by kernel_rfl) (by kernel_rfl) (fun _ _ _ h => h) (Or.inl ⟨by rfl, fun V hV => ?_⟩) ?_ ?_
          · obtain ⟨g0, g1, g2, g3, g4, g5⟩ := hV
            go_simp
          · exact HS0
          conv => arg 9; simp [Act.put]
          refine wpAnyR_take (i := 3) (v := .agg #[.int .i64 k1, .string t1, .int .i64 n1, .slice xo xn xc, .slice zo zn zc, .slice uo un uc]) rfl (by kernel_rfl) (by kernel_rfl) (by kernel_rfl) (by kernel_rfl) (fun _ _ _ h => h) (Or.inl ⟨by rfl, fun V hV => ?_⟩) ?_ ?_
          · obtain ⟨g0, g1, g2, g3, g4, g5⟩ := hV
            go_simp
          · exact HS0
          conv => arg 9; simp [Act.put]
          refine wpAnyR_take (i := 4) (v := .string s) rfl (by kernel_rfl) (by kernel_rfl) (by kernel_rfl) (by kernel_rfl) (fun _ _ _ h => h) (Or.inl ⟨by rfl, fun V hV => ?_⟩) ?_ ?_
          · obtain ⟨g0, g1, g2, g3, g4, g5⟩ := hV
            go_simp
          · exact HS0
          conv => arg 9; simp [Act.put]
          refine wpAnyR_take (i := 5) (v := .int .i64 (j : Nat)) rfl (by kernel_rfl) (by kernel_rfl) (by kernel_rfl) (by kernel_rfl) (fun _ _ _ h => h) (Or.inl ⟨by rfl, fun V hV => ?_⟩) ?_ ?_
          · obtain ⟨g0, g1, g2, g3, g4, g5⟩ := hV
            go_simp
          · exact HS0
          conv => arg 9; simp [Act.put]
          refine wpAnyR_take (i := 6) (v := .int .u8 (ltr q)) rfl (by kernel_rfl) (by kernel_rfl) (by kernel_rfl) (by kernel_rfl) (fun _ _ _ h => h) (Or.inl ⟨by rfl, fun V hV => ?_⟩) ?_ ?_
          · obtain ⟨g0, g1, g2, g3, g4, g5⟩ := hV
            go_simp
          · exact HS0
          conv => arg 9; simp [Act.put]
          refine wpAnyR_one (i := 7) (by kernel_rfl) rfl (fun K hK => ?_)
          go_simp
          go_at_call 107
          with_reducible refine (hf _).mono ?_
          rintro e w5 ⟨rfl, b5⟩
          have B5 := B.drew.trans (b5.mono B.size)
          refine hK _ _ ⟨fun _ => HS.out w5 B5, ?_⟩
          clear hK
          (try (conv => arg 9; simp [Act.put]))
          refine wpAnyR_one (i := 8) (by kernel_rfl) rfl (fun K hK => ?_)
          go_simp
          refine hK _ _ ⟨fun _ => HS.out w5 B5, ?_⟩
          clear hK
          refine wpAnyR_done (by kernel_rfl) ?_ _
          clear HS0 HS1 HS b5 hf
          cases A
          · have HNO : Hid (pall ask n = false) := pall_no hlt HQ.out
            go_wp2
            go_ret
            exact ⟨ret_bool (HNO.out.symm), B5⟩
          · have HQT : Hid (ask j = true) := HQ.out
            go_wp2
            go_roundw
            case rel => exact ⟨j + 1, by omega, by go_num, fun i hi => by by_cases e : i = j; (· subst e; exact HQT.out); exact HJ.out i (by omega), B5⟩
            case measure => simp [intOf]; omega
        · obtain rfl : j = n := by omega
          have t3 : decide ((j : Int) < (s.size : Int)) = false := by have := HSZ.out; simp; omega
          have t5 : ¬ ((j : Int) < (s.size : Int)) := by have := HSZ.out; omega
          have t6 : ¬ (j < s.size) := by have := HSZ.out; omega
          have t7 : s.size ≤ j := by have := HSZ.out; omega
          have HYE : Hid (pall ask j = true) := (pall_iff _ _).2 HJ.out
          go_wp2
          go_ret
          exact ⟨ret_bool (HYE.out.symm), B⟩
    · go_enter Tryz.func72, Tryz.ntmps72
      go_wp2
      go_loopw [7] (fun iv V => ∃ j : Nat, j ≤ n ∧ iv = .int .i64 (j : Nat) ∧ Hid (∀ i, i < j → ask i = true) ∧ Below w.heap.size w V) (fun iv _ => n - (intOf iv).toNat)
      case atStart => exact ⟨0, Nat.zero_le _, rfl, fun i h => absurd h (Nat.not_lt_zero _), Below.refl _ _⟩
      case round =>
        obtain ⟨j, hj, rfl, HJ, B⟩ := hrel
        by_cases hlt : j < n
        · have t3 : decide ((j : Int) < (s.size : Int)) = true := by have := HSZ.out; simp; omega
          have bj : (j : Int) < (n : Int) := by omega
          obtain ⟨b, off, rfl, hb, hc⟩ := HK.out.cells (by omega)
          obtain ⟨n1, xo, xn, xc, zo, zn, zc, uo, un, uc, x0, x1, x2, x3, x4, x5⟩ := hc j hlt
          have HS : Hid (∀ V, Below w.heap.size w V → V.cell? ⟨b, off + j * 6, none⟩ = some (.int .i64 (g j).1) ∧ V.cell? ⟨b, off + j * 6 + 1, none⟩ = some (.string (g j).2) ∧ V.cell? ⟨b, off + j * 6 + 2, none⟩ = some (.int .i64 n1) ∧ V.cell? ⟨b, off + j * 6 + 3, none⟩ = some (.slice xo xn xc) ∧ V.cell? ⟨b, off + j * 6 + 4, none⟩ = some (.slice zo zn zc) ∧ V.cell? ⟨b, off + j * 6 + 5, none⟩ = some (.slice uo un uc)) := fun V bV => ⟨(bV.cell (p := ⟨b, off + j * 6, none⟩) hb).trans x0, (bV.cell (p := ⟨b, off + j * 6 + 1, none⟩) hb).trans x1, (bV.cell (p := ⟨b, off + j * 6 + 2, none⟩) hb).trans x2, (bV.cell (p := ⟨b, off + j * 6 + 3, none⟩) hb).trans x3, (bV.cell (p := ⟨b, off + j * 6 + 4, none⟩) hb).trans x4, (bV.cell (p := ⟨b, off + j * 6 + 5, none⟩) hb).trans x5⟩
          have HQ : Hid (ask j = askB (ps.getD j 0) (g j).1 (g j).2) := hask j
          have HP : Hid (1 ≤ ps.getD j 0 ∧ ps.getD j 0 ≤ 5) := HPS.out j (by omega)
          have bjs : (j : Int) < (s.size : Int) := by have := HSZ.out; omega
          have hix : ∀ W, (Instr.index 9 (.string s) (.int .i64 (j : Nat))).run Tryz.prog W = .ok (.int .u8 (ltr (ps.getD j 0))) W := fun W => by rw [← HBT.out j (by omega)]; exact idx_str s j (by omega) W
          clear x0 x1 x2 x3 x4 x5 hc
          generalize (g j).1 = k1 at *
          generalize (g j).2 = t1 at *
          generalize ps.getD j 0 = q at *
          have HS0 := HS.out wr B
          have HS1 := HS.out wr.drew B.drew
          have hf := fun V => rfits_any q HP.out.1 HP.out.2 k1 n1 t1 xo zo uo xn xc zn zc un uc V
          generalize askB q k1 t1 = A at *
          go_upto_region 16 with fail
          refine wp_region_R (fun V => V.cell? ⟨b, off + j * 6, none⟩ = some (.int .i64 k1) ∧ V.cell? ⟨b, off + j * 6 + 1, none⟩ = some (.string t1) ∧ V.cell? ⟨b, off + j * 6 + 2, none⟩ = some (.int .i64 n1) ∧ V.cell? ⟨b, off + j * 6 + 3, none⟩ = some (.slice xo xn xc) ∧ V.cell? ⟨b, off + j * 6 + 4, none⟩ = some (.slice zo zn zc) ∧ V.cell? ⟨b, off + j * 6 + 5, none⟩ = some (.slice uo un uc)) (fun _ => true) (by kernel_rfl) ?_
          refine wpAnyR_take (i := 0) (v := .slice (some ⟨b, off, none⟩) n kc) rfl (by kernel_rfl) (by kernel_rfl) (by kernel_rfl) (by kernel_rfl) (fun _ _ _ h => h) (Or.inl ⟨by rfl, fun V hV => ?_⟩) ?_ ?_
          · obtain ⟨g0, g1, g2, g3, g4, g5⟩ := hV
            go_simp
          · exact HS0
          conv => arg 9; simp [Act.put]
          refine wpAnyR_take (i := 1) (v := .int .i64 (j : Nat)) rfl (by kernel_rfl) (by kernel_rfl) (by kernel_rfl) (by kernel_rfl) (fun _ _ _ h => h) (Or.inl ⟨by rfl, fun V hV => ?_⟩) ?_ ?_
          · obtain ⟨g0, g1, g2, g3, g4, g5⟩ := hV
            go_simp
          · exact HS0
          conv => arg 9; simp [Act.put]
          refine wpAnyR_take (i := 2) (v := .pointer (some ⟨b, off + j * 6, none⟩)) rfl (by kernel_rfl) (by kernel_rfl) (by kernel_rfl) (by kernel_rfl) (fun _ _ _ h => h) (Or.inl ⟨by rfl, fun V hV => ?_⟩) ?_ ?_
          · obtain ⟨g0, g1, g2, g3, g4, g5⟩ := hV
            go_simp
          · exact HS0
          conv => arg 9; simp [Act.put]
          refine wpAnyR_take (i := 3) (v := .agg #[.int .i64 k1, .string t1, .int .i64 n1, .slice xo xn xc, .slice zo zn zc, .slice uo un uc]) rfl (by kernel_rfl) (by kernel_rfl) (by kernel_rfl) (by kernel_rfl) (fun _ _ _ h => h) (Or.inl ⟨by rfl, fun V hV => ?_⟩) ?_ ?_
          · obtain ⟨g0, g1, g2, g3, g4, g5⟩ := hV
            go_simp
          · exact HS0
          conv => arg 9; simp [Act.put]
          refine wpAnyR_take (i := 4) (v := .string s) rfl (by kernel_rfl) (by kernel_rfl) (by kernel_rfl) (by kernel_rfl) (fun _ _ _ h => h) (Or.inl ⟨by rfl, fun V hV => ?_⟩) ?_ ?_
          · obtain ⟨g0, g1, g2, g3, g4, g5⟩ := hV
            go_simp
          · exact HS0
          conv => arg 9; simp [Act.put]
          refine wpAnyR_take (i := 5) (v := .int .i64 (j : Nat)) rfl (by kernel_rfl) (by kernel_rfl) (by kernel_rfl) (by kernel_rfl) (fun _ _ _ h => h) (Or.inl ⟨by rfl, fun V hV => ?_⟩) ?_ ?_
          · obtain ⟨g0, g1, g2, g3, g4, g5⟩ := hV
            go_simp
          · exact HS0
          conv => arg 9; simp [Act.put]
          refine wpAnyR_take (i := 6) (v := .int .u8 (ltr q)) rfl (by kernel_rfl) (by kernel_rfl) (by kernel_rfl) (by kernel_rfl) (fun _ _ _ h => h) (Or.inl ⟨by rfl, fun V hV => ?_⟩) ?_ ?_
          · obtain ⟨g0, g1, g2, g3, g4, g5⟩ := hV
            go_simp
          · exact HS0
          conv => arg 9; simp [Act.put]
          refine wpAnyR_one (i := 7) (by kernel_rfl) rfl (fun K hK => ?_)
          go_simp
          go_at_call 107
          with_reducible refine (hf _).mono ?_
          rintro e w5 ⟨rfl, b5⟩
          have B5 := B.drew.trans (b5.mono B.size)
          refine hK _ _ ⟨fun _ => HS.out w5 B5, ?_⟩
          clear hK
          (try (conv => arg 9; simp [Act.put]))
          refine wpAnyR_one (i := 8) (by kernel_rfl) rfl (fun K hK => ?_)
          go_simp
          refine hK _ _ ⟨fun _ => HS.out w5 B5, ?_⟩
          clear hK
          refine wpAnyR_done (by kernel_rfl) ?_ _
          clear HS0 HS1 HS b5 hf
          cases A
          · have HNO : Hid (pall ask n = false) := pall_no hlt HQ.out
            go_wp2
            go_ret
            exact ⟨ret_bool (HNO.out.symm), B5⟩
          · have HQT : Hid (ask j = true) := HQ.out
            go_wp2
            go_roundw
            case rel => exact ⟨j + 1, by omega, by go_num, fun i hi => by by_cases e : i = j; (· subst e; exact HQT.out); exact HJ.out i (by omega), B5⟩
            case measure => simp [intOf]; omega
        · obtain rfl : j = n := by omega
          have t3 : decide ((j : Int) < (s.size : Int)) = false := by have := HSZ.out; simp; omega
          have t5 : ¬ ((j : Int) < (s.size : Int)) := by have := HSZ.out; omega
          have t6 : ¬ (j < s.size) := by have := HSZ.out; omega
          have t7 : s.size ≤ j := by have := HSZ.out; omega
          have HYE : Hid (pall ask j = true) := (pall_iff _ _).2 HJ.out
          go_wp2
          go_ret
          exact ⟨ret_bool (HYE.out.symm), B⟩
  · have d0 : decide (n = ps.length) = false := by simp; omega
    rw [d0, Bool.false_and]
    have e0 : ((n : Int) == (s.size : Int)) = false := by simp; omega
    have e0' : ¬ (n : Int) = (s.size : Int) := by omega
    clear hn d0 HS3 hs
    rcases hone with h1 | ⟨h1, hx1, q1, q2, q3, q4⟩
    · go_enter Tryz.func72, Tryz.ntmps72
      go_wp2
      go_ret
      exact ⟨rfl, Below.refl _ _⟩
    · go_enter Tryz.func72, Tryz.ntmps72
      go_wp2
      go_ret
      exact ⟨rfl, Below.refl _ _⟩
end Go.Proofs.YtiahilelcppfgaaGreat
