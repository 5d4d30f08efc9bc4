
/- The document's array of a node. -/

import Derived.Test.YtiahilelcppfgaaGreatSQ

namespace Go.Proofs.YtiahilelcppfgaaGreat

open Go.RowKit

set_option linter.unusedVariables false

set_option linter.unusedSimpArgs false in
set_option maxRecDepth 100000 in
set_option maxHeartbeats 4000000 in
theorem rnum_1 (n : Int) (t : ByteArray) (so ao ko : Option Addr) (sn sc an ac kn kc : Nat) (s a : List Int) (w : World) (hs : Rd w so sn s) (ha : Rd w ao an a) :
    Calls Tryz.prog 74 #[.agg #[.int .i64 1, .string t, .int .i64 n, .slice so sn sc, .slice ao an ac, .slice ko kn kc]] w fun e w' => e = .returned (.bool (scB s a || lsB 2 64 s a)) ∧ Below w.heap.size w w' := by
  have HR : Hid ((scB s a || lsB 2 64 s a) = ((decide (s.length = 0) && decide (a.length = 1)) || (decide (s.length = 1) && (decide (nth s 0 = (a.length : Nat)) && (decide (2 ≤ a.length) && decide (a.length ≤ 64)))))) := rfl
  generalize (scB s a || lsB 2 64 s a) = R at *
  have k0 := box_below w (.cells #[.int .i64 1, .string t, .int .i64 n, .slice so sn sc, .slice ao an ac, .slice ko kn kc] 31)
  have r0 := allocNew w (.cells #[.int .i64 1, .string t, .int .i64 n, .slice so sn sc, .slice ao an ac, .slice ko kn kc] 31)
  have k1 := box_below (w.alloc (.cells #[.int .i64 1, .string t, .int .i64 n, .slice so sn sc, .slice ao an ac, .slice ko kn kc] 31)) (.cells #[.slice so sn sc, .slice ao an ac] 28)
  obtain ⟨a0, a1, _, _⟩ := box2 (allocNew (w.alloc (.cells #[.int .i64 1, .string t, .int .i64 n, .slice so sn sc, .slice ao an ac, .slice ko kn kc] 31)) (.cells #[.slice so sn sc, .slice ao an ac] 28))
  rw [World.size_alloc] at a0 a1
  obtain ⟨b0, b1, b2, b3, b4, b5⟩ := box6 ((k1.block w.heap.size (by simp)).trans r0)
  have kk := k0.trans (k1.mono k0.size)
  have HSZ : Hid (((w.alloc (.cells #[.int .i64 1, .string t, .int .i64 n, .slice so sn sc, .slice ao an ac, .slice ko kn kc] 31)).alloc (.cells #[.slice so sn sc, .slice ao an ac] 28)).heap.size = w.heap.size + 2) := by show _ = _; simp
  have hs1 := hs.below kk (Nat.le_refl _)
  have ha1 := ha.below kk (Nat.le_refl _)
  have hsl := hs.len
  have hal := ha.len
  clear hs ha k0 k1 r0
  go_enter Tryz.func74, Tryz.ntmps74
  go_upto_region 2 with fail
  generalize hW : World.alloc (World.alloc w _) _ = W at *
  clear hW
  rw [hsl, hal] at HR
  clear hsl hal
  by_cases h1 : sn = 0
  · have e1 : ((sn : Int) == 0) = true := by simp [h1]
    have HE : Hid (R = ((an : Int) == 1)) := by
      show _ = _
      rw [HR.out, h1]
      by_cases h : an = 1 <;> simp [h] <;> omega
    clear hs1 ha1 h1 HR
    go_wp2
    go_ret
    exact ⟨ret_bool HE.out.symm, kk⟩
  have e1 : ((sn : Int) == 0) = false := by simp [h1]
  by_cases h2 : sn = 1
  · have e1' : ((sn : Int) == 1) = true := by simp [h2]
    have e2' : (sn == 1) = true := by simp [h2]
    have b1n : (0 : Int) < (sn : Int) := by omega
    obtain ⟨b, off, rfl, hb, hc⟩ := hs1.cells (by omega)
    have c0 := hc 0 (by omega)
    rw [Nat.add_zero] at c0
    clear hc
    have HR : Hid (R = (decide (nth s 0 = (an : Nat)) && (decide (2 ≤ an) && decide (an ≤ 64)))) := by
      show _ = _
      rw [HR.out, h2]; simp
    clear hs1 ha1 h1 h2
    generalize nth s 0 = z at *
    by_cases h3 : 2 ≤ z
    · have e3 : decide (2 ≤ z) = true := by simp [h3]
      by_cases h4 : z ≤ 64
      · have e4 : decide (z ≤ 64) = true := by simp [h4]
        have HE : Hid (R = ((an : Int) == z)) := by
          show _ = _
          rw [HR.out]
          by_cases h : z = (an : Nat)
          · subst h; simp; omega
          · have : ((an : Int) == z) = false := by simp; omega
            rw [this]; simp [h]
        clear HR h3 h4
        go_upto_region 6 with fail
        go_quiet (fail)
        go_wp2
        go_ret
        exact ⟨ret_bool HE.out.symm, below_drewN kk _⟩
      · have e4 : decide (z ≤ 64) = false := by simp; omega
        have HE : Hid (R = false) := by
          show _ = _
          rw [HR.out]; simp; omega
        clear HR h3 h4
        go_upto_region 6 with fail
        go_quiet (fail)
        go_wp2
        go_ret
        exact ⟨ret_bool HE.out.symm, below_drewN kk _⟩
    · have e3 : decide (2 ≤ z) = false := by simp; omega
      have HE : Hid (R = false) := by
        show _ = _
        rw [HR.out]; simp; omega
      clear HR h3
      go_upto_region 6 with fail
      go_quiet (fail)
      go_wp2
      go_ret
      exact ⟨ret_bool HE.out.symm, below_drewN kk _⟩
  · have e1' : ((sn : Int) == 1) = false := by simp; omega
    have e2' : (sn == 1) = false := by simp [h2]
    have HE : Hid (R = false) := by
      show _ = _
      rw [HR.out]; simp [h1, h2]
    clear hs1 ha1 h1 h2 HR
    go_upto_region 6 with fail
    go_quiet (fail)
    go_wp2
    go_ret
    exact ⟨ret_bool HE.out.symm, below_drewN kk _⟩
set_option linter.unusedSimpArgs false in
set_option maxRecDepth 100000 in
set_option maxHeartbeats 4000000 in
theorem rnum_42 (n : Int) (t : ByteArray) (so ao ko : Option Addr) (sn sc an ac kn kc : Nat) (s a : List Int) (w : World) (hs : Rd w so sn s) (ha : Rd w ao an a) :
    Calls Tryz.prog 74 #[.agg #[.int .i64 42, .string t, .int .i64 n, .slice so sn sc, .slice ao an ac, .slice ko kn kc]] w fun e w' => e = .returned (.bool (lsB 1 3 s a && pall (fun i => !nrB (nth a i)) a.length)) ∧ Below w.heap.size w w' := by
  have HR : Hid ((lsB 1 3 s a && pall (fun i => !nrB (nth a i)) a.length) = ((decide (s.length = 1) && (decide (nth s 0 = (a.length : Nat)) && (decide (1 ≤ a.length) && decide (a.length ≤ 3)))) && pall (fun i => !nrB (nth a i)) a.length)) := rfl
  generalize (lsB 1 3 s a && pall (fun i => !nrB (nth a i)) a.length) = R at *
  have k0 := box_below w (.cells #[.int .i64 42, .string t, .int .i64 n, .slice so sn sc, .slice ao an ac, .slice ko kn kc] 31)
  have r0 := allocNew w (.cells #[.int .i64 42, .string t, .int .i64 n, .slice so sn sc, .slice ao an ac, .slice ko kn kc] 31)
  have k1 := box_below (w.alloc (.cells #[.int .i64 42, .string t, .int .i64 n, .slice so sn sc, .slice ao an ac, .slice ko kn kc] 31)) (.cells #[.slice so sn sc, .slice ao an ac] 28)
  obtain ⟨a0, a1, _, _⟩ := box2 (allocNew (w.alloc (.cells #[.int .i64 42, .string t, .int .i64 n, .slice so sn sc, .slice ao an ac, .slice ko kn kc] 31)) (.cells #[.slice so sn sc, .slice ao an ac] 28))
  rw [World.size_alloc] at a0 a1
  obtain ⟨b0, b1, b2, b3, b4, b5⟩ := box6 ((k1.block w.heap.size (by simp)).trans r0)
  have kk := k0.trans (k1.mono k0.size)
  have HSZ : Hid (((w.alloc (.cells #[.int .i64 42, .string t, .int .i64 n, .slice so sn sc, .slice ao an ac, .slice ko kn kc] 31)).alloc (.cells #[.slice so sn sc, .slice ao an ac] 28)).heap.size = w.heap.size + 2) := by show _ = _; simp
  have hs1 := hs.below kk (Nat.le_refl _)
  have ha1 := ha.below kk (Nat.le_refl _)
  have hsl := hs.len
  have hal := ha.len
  clear hs ha k0 k1 r0
  go_enter Tryz.func74, Tryz.ntmps74
  go_upto_region 2 with fail
  generalize hW : World.alloc (World.alloc w _) _ = W at *
  clear hW
  rw [hsl, hal] at HR
  clear hsl hal
  obtain ⟨f, hf⟩ : ∃ f : Nat → Bool, ∀ i, f i = !nrB (nth a i) := ⟨_, fun _ => rfl⟩
  rw [show (fun i => !nrB (nth a i)) = f from (funext hf).symm] at HR
  have HF : Hid (∀ i, f i = !nrB (nth a i)) := hf
  clear hf
  have HP : Hid (∀ z : Int, nrB z = ((decide (z < -8) || decide (8 < z)) && !decide (z = 64))) := fun _ => rfl
  have hroom := ha1.room
  have HA : Hid (Rd W ao an a) := ha1
  clear ha1
  by_cases h2 : sn = 1
  · have h2' := h2
    have e1' : ((sn : Int) == 1) = true := by simp [h2]
    have e2' : (sn == 1) = true := by simp [h2]
    have b1n : (0 : Int) < (sn : Int) := by omega
    obtain ⟨b, off, rfl, hb, hc⟩ := hs1.cells (by omega)
    have c0 := hc 0 (by omega)
    rw [Nat.add_zero] at c0
    clear hc
    have e3' : ((sn : Int) != 1) = false := by simp [h2']
    have e4' : (sn != 1) = false := by simp [h2']
    have HR : Hid (R = ((decide (nth s 0 = (an : Nat)) && (decide (1 ≤ an) && decide (an ≤ 3))) && pall f an)) := by
      show _ = _
      rw [HR.out, h2]; simp
    clear hs1 h2 h2'
    generalize nth s 0 = z0 at *
    by_cases h3 : z0 < 1
    · have e3 : decide (z0 < 1) = true := by simp [h3]
      have HE : Hid (R = false) := by
        show _ = _
        rw [HR.out]; simp; omega
      clear HR HP h3
      go_upto_region 8 with fail
      go_quiet (fail)
      go_wp2
      go_ret
      exact ⟨ret_bool HE.out.symm, below_drewN kk _⟩
    have e3 : decide (z0 < 1) = false := by simp; omega
    by_cases h4 : 3 < z0
    · have e4 : decide (3 < z0) = true := by simp [h4]
      have HE : Hid (R = false) := by
        show _ = _
        rw [HR.out]; simp; omega
      clear HR HP h3 h4
      go_upto_region 8 with fail
      go_quiet (fail)
      go_wp2
      go_ret
      exact ⟨ret_bool HE.out.symm, below_drewN kk _⟩
    have e4 : decide (3 < z0) = false := by simp; omega
    by_cases h5 : z0 = (an : Nat)
    · have e5 : ((an : Int) != z0) = false := by simp [h5]
      have e5' : ((an : Int) == z0) = true := by simp [h5]
      have HE : Hid (R = pall f an) := by
        show _ = _
        rw [HR.out]
        have q1 : decide (z0 = (an : Nat)) = true := by simp [h5]
        have q2 : decide (1 ≤ an) = true := by simp; omega
        have q3 : decide (an ≤ 3) = true := by simp; omega
        rw [q1, q2, q3]; simp
      clear HR h3 h4 h5
      go_upto_region 8 with fail
      go_quiet (fail)
      go_wp2
      go_loopw [4] (fun iv V => ∃ j : Nat, j ≤ an ∧ iv = .int .i64 (j : Nat) ∧ Hid (∀ i, i < j → f i = true) ∧ Below W.heap.size W V) (fun iv _ => an - (intOf iv).toNat)
      case atStart => exact ⟨0, Nat.zero_le _, rfl, fun i h => absurd h (Nat.not_lt_zero _), below_drewN (Below.refl _ _) _⟩
      case round =>
        obtain ⟨j, hj, rfl, HJ, B⟩ := hrel
        have c1 := (B.cell (p := ⟨w.heap.size + 1, 1, none⟩) (show w.heap.size + 1 < W.heap.size by have := HSZ.out; omega)).trans a1
        by_cases hlt : j < an
        · have t3 : decide ((j : Int) < (an : Int)) = true := by simp; omega
          have bj : (j : Int) < (an : Int) := by omega
          obtain ⟨b', off', rfl, hb', hc'⟩ := HA.out.cells (by omega)
          have cj := (B.cell (p := ⟨b', off' + j, none⟩) hb').trans (hc' j hlt)
          have HV0 : Hid (f j = !nrB (nth a j)) := HF.out j
          clear hc'
          generalize nth a j = z at *
          have HN := HP.out z
          rcases (by omega : (z < -8) ∨ (-8 ≤ z ∧ z ≤ 8) ∨ (8 < z ∧ z < 64) ∨ (z = 64) ∨ (64 < z)) with hz | hz | hz | hz | hz
          · have g1 : decide (z < -8) = true := by simp; omega
            have g2 : decide (8 < z) = false := by simp; omega
            have g3 : decide (z = 64) = false := by simp; omega
            have g4 : (z == 64) = false := by simp; omega
            have HV : Hid (f j = false) := by
              show _ = _
              rw [HV0.out, HN, g1, g2, g3]; rfl
            clear hz HN
            go_wp2
            go_ret
            exact ⟨ret_bool (HE.out.trans (pall_no hlt HV.out)).symm, kk.trans (B.mono kk.size)⟩
          · have g1 : decide (z < -8) = false := by simp; omega
            have g2 : decide (8 < z) = false := by simp; omega
            have g3 : decide (z = 64) = false := by simp; omega
            have g4 : (z == 64) = false := by simp; omega
            have HV : Hid (f j = true) := by
              show _ = _
              rw [HV0.out, HN, g1, g2, g3]; rfl
            clear hz HN
            go_wp2
            go_roundw
            case rel => exact ⟨j + 1, by omega, by go_num, fun i hi => by by_cases e : i = j; (· subst e; exact HV.out); exact HJ.out i (by omega), B⟩
            case measure => simp [intOf]; omega
          · have g1 : decide (z < -8) = false := by simp; omega
            have g2 : decide (8 < z) = true := by simp; omega
            have g3 : decide (z = 64) = false := by simp; omega
            have g4 : (z == 64) = false := by simp; omega
            have HV : Hid (f j = false) := by
              show _ = _
              rw [HV0.out, HN, g1, g2, g3]; rfl
            clear hz HN
            go_wp2
            go_ret
            exact ⟨ret_bool (HE.out.trans (pall_no hlt HV.out)).symm, kk.trans (B.mono kk.size)⟩
          · have g1 : decide (z < -8) = false := by simp; omega
            have g2 : decide (8 < z) = true := by simp; omega
            have g3 : decide (z = 64) = true := by simp; omega
            have g4 : (z == 64) = true := by simp; omega
            have HV : Hid (f j = true) := by
              show _ = _
              rw [HV0.out, HN, g1, g2, g3]; rfl
            clear hz HN
            go_wp2
            go_roundw
            case rel => exact ⟨j + 1, by omega, by go_num, fun i hi => by by_cases e : i = j; (· subst e; exact HV.out); exact HJ.out i (by omega), B⟩
            case measure => simp [intOf]; omega
          · have g1 : decide (z < -8) = false := by simp; omega
            have g2 : decide (8 < z) = true := by simp; omega
            have g3 : decide (z = 64) = false := by simp; omega
            have g4 : (z == 64) = false := by simp; omega
            have HV : Hid (f j = false) := by
              show _ = _
              rw [HV0.out, HN, g1, g2, g3]; rfl
            clear hz HN
            go_wp2
            go_ret
            exact ⟨ret_bool (HE.out.trans (pall_no hlt HV.out)).symm, kk.trans (B.mono kk.size)⟩
        · obtain rfl : j = an := by omega
          have t3 : decide ((j : Int) < (j : Int)) = false := by simp
          have HY : Hid (pall f j = true) := (pall_iff _ _).2 HJ.out
          go_wp2
          go_ret
          exact ⟨ret_bool (HE.out.trans HY.out).symm, kk.trans (B.mono kk.size)⟩
    · have e5 : ((an : Int) != z0) = true := by simp; omega
      have e5' : ((an : Int) == z0) = false := by simp; omega
      have HE : Hid (R = false) := by
        show _ = _
        rw [HR.out]; simp [h5]
      clear HR HP h3 h4 h5
      go_upto_region 8 with fail
      go_quiet (fail)
      go_wp2
      go_ret
      exact ⟨ret_bool HE.out.symm, below_drewN kk _⟩
  · have e1' : ((sn : Int) == 1) = false := by simp; omega
    have e2' : (sn == 1) = false := by simp [h2]
    have e3' : ((sn : Int) != 1) = true := by simp; omega
    have e4' : (sn != 1) = true := by simp [h2]
    have HE : Hid (R = false) := by
      show _ = _
      rw [HR.out]; simp [h2]
    clear hs1 h2 HR HP
    go_upto_region 8 with fail
    go_quiet (fail)
    go_wp2
    go_ret
    exact ⟨ret_bool HE.out.symm, below_drewN kk _⟩
set_option linter.unusedSimpArgs false in
set_option maxRecDepth 100000 in
set_option maxHeartbeats 4000000 in
theorem rnum_any (k : Int) (n : Int) (t : ByteArray) (so ao ko : Option Addr) (sn sc an ac kn kc : Nat) (s a : List Int) (w : World) (hs : Rd w so sn s) (ha : Rd w ao an a) :
    Calls Tryz.prog 74 #[.agg #[.int .i64 k, .string t, .int .i64 n, .slice so sn sc, .slice ao an ac, .slice ko kn kc]] w fun e w' => e = .returned (.bool (arrB k s a)) ∧ Below w.heap.size w w' := by
  by_cases h1 : k = 1
  · subst h1
    have := rnum_1 n t so ao ko sn sc an ac kn kc s a w hs ha
    rwa [show arrB 1 s a = (scB s a || lsB 2 64 s a) from by simp [arrB]]
  by_cases h42 : k = 42
  · subst h42
    have := rnum_42 n t so ao ko sn sc an ac kn kc s a w hs ha
    rwa [show arrB 42 s a = (lsB 1 3 s a && pall (fun i => !nrB (nth a i)) a.length) from by simp [arrB]]
  have HR : Hid (arrB k s a = (decide (s.length = 0) && decide (a.length = 0))) := by show _ = _; simp [arrB, h1, h42]
  generalize arrB k s a = R at *
  have e1 : (k == 1) = false := by simp [h1]
  have e42 : (k == 42) = false := by simp [h42]
  have k0 := box_below w (.cells #[.int .i64 k, .string t, .int .i64 n, .slice so sn sc, .slice ao an ac, .slice ko kn kc] 31)
  have r0 := allocNew w (.cells #[.int .i64 k, .string t, .int .i64 n, .slice so sn sc, .slice ao an ac, .slice ko kn kc] 31)
  have k1 := box_below (w.alloc (.cells #[.int .i64 k, .string t, .int .i64 n, .slice so sn sc, .slice ao an ac, .slice ko kn kc] 31)) (.cells #[.slice so sn sc, .slice ao an ac] 28)
  obtain ⟨a0, a1, _, _⟩ := box2 (allocNew (w.alloc (.cells #[.int .i64 k, .string t, .int .i64 n, .slice so sn sc, .slice ao an ac, .slice ko kn kc] 31)) (.cells #[.slice so sn sc, .slice ao an ac] 28))
  rw [World.size_alloc] at a0 a1
  obtain ⟨b0, b1, b2, b3, b4, b5⟩ := box6 ((k1.block w.heap.size (by simp)).trans r0)
  have kk := k0.trans (k1.mono k0.size)
  have HSZ : Hid (((w.alloc (.cells #[.int .i64 k, .string t, .int .i64 n, .slice so sn sc, .slice ao an ac, .slice ko kn kc] 31)).alloc (.cells #[.slice so sn sc, .slice ao an ac] 28)).heap.size = w.heap.size + 2) := by show _ = _; simp
  have hs1 := hs.below kk (Nat.le_refl _)
  have ha1 := ha.below kk (Nat.le_refl _)
  have hsl := hs.len
  have hal := ha.len
  clear hs ha k0 k1 r0
  go_enter Tryz.func74, Tryz.ntmps74
  go_upto_region 2 with fail
  generalize hW : World.alloc (World.alloc w _) _ = W at *
  clear hW
  rw [hsl, hal] at HR
  clear hsl hal hs1 ha1 h1 h42
  by_cases h1 : sn = 0
  · have e0 : ((sn : Int) == 0) = true := by simp [h1]
    have HE : Hid (R = ((an : Int) == 0)) := by
      show _ = _
      rw [HR.out, h1]
      by_cases h : an = 0 <;> simp [h]
    clear h1 HR
    go_wp2
    go_ret
    exact ⟨ret_bool HE.out.symm, kk⟩
  · have e0 : ((sn : Int) == 0) = false := by simp [h1]
    have HE : Hid (R = false) := by
      show _ = _
      rw [HR.out]; simp [h1]
    clear h1 HR
    go_wp2
    go_ret
    exact ⟨ret_bool HE.out.symm, kk⟩
end Go.Proofs.YtiahilelcppfgaaGreat
