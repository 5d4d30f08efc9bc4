
/- Package term: all kids alike. -/

import Derived.Test.YtiahilelcppfgaaGreatTF

import Derived.RangeFuncBox

namespace Go.Proofs.YtiahilelcppfgaaGreat

open Go.RowKit

set_option linter.unusedVariables false

/-- Is each as is asked? -/
def kallB (p n : Nat) (g : Nat → Int × ByteArray) : Bool := pall (fun i => askB p (g i).1 (g i).2) n
set_option maxHeartbeats 4000000 in
theorem indexAsk_any (p : Nat) (hp : 1 ≤ p) (hq : p ≤ 5) (pf : Nat) (ko : Option Addr) (n kc : Nat) (g : Nat → Int × ByteArray) (w : World) (h : Kf w ko n g) (hf : w.cell? ⟨pf, 0, none⟩ = some (fv p)) :
    Calls Tryz.prog 93 #[.slice ko n kc, .func (.func 116) #[] #[.pointer (some ⟨pf, 0, none⟩)]] w fun e w' => ∃ i : Int, e = .returned (.int .i64 i) ∧ decide (0 ≤ i) = (!kallB p n g) ∧ Below w.heap.size w w' := by
  have hrm := h.room
  obtain ⟨f, hff⟩ : ∃ f : Nat → Bool, f = fun i => askB p (g i).1 (g i).2 := ⟨_, rfl⟩
  have hfi : Hid (∀ i, f i = askB p (g i).1 (g i).2) := fun i => by rw [hff]
  have HB : kallB p n g = pall f n := by rw [hff]; rfl
  rw [HB]
  clear HB hff
  have lf := World.block_lt_of_cell? w _ hf
  go_enter Tryz.func93, Tryz.ntmps93
  go_wp2
  go_loopw [8] (fun i V => ∃ k : Nat, k ≤ n ∧ i = .int .i64 (k : Nat) ∧ Below w.heap.size w V ∧ ∀ j, j < k → f j = true) (fun i _ => n - (intOf i).toNat)
  case atStart => exact ⟨0, Nat.zero_le _, rfl, Below.refl _ _, fun j hj => by omega⟩
  case round =>
    obtain ⟨k, hk, rfl, BV, hz⟩ := hrel
    have HZ : Hid (∀ j, j < k → f j = true) := hz
    clear hz
    by_cases hlt : k < n
    · have t1 : decide ((k : Int) < (n : Int)) = true := by simp; omega
      have bk : (k : Int) < (n : Int) := by omega
      obtain ⟨b, off, rfl, hb, hc⟩ := h.cells (by omega)
      obtain ⟨m, so, sn, sc, ao, an, ac, uo, un, uc, q0, q1, q2, q3, q4, q5⟩ := hc k hlt
      replace q0 := (BV.cell (p := ⟨b, off + k * 6, none⟩) hb).trans q0
      replace q1 := (BV.cell (p := ⟨b, off + k * 6 + 1, none⟩) hb).trans q1
      replace q2 := (BV.cell (p := ⟨b, off + k * 6 + 2, none⟩) hb).trans q2
      replace q3 := (BV.cell (p := ⟨b, off + k * 6 + 3, none⟩) hb).trans q3
      replace q4 := (BV.cell (p := ⟨b, off + k * 6 + 4, none⟩) hb).trans q4
      replace q5 := (BV.cell (p := ⟨b, off + k * 6 + 5, none⟩) hb).trans q5
      have hcal := askAll1_any p hp hq pf (g k).1 m (g k).2 so ao uo sn sc an ac un uc wr ((BV.cell (p := ⟨pf, 0, none⟩) lf).trans hf)
      have hfk := hfi.out k
      rw [← hfk] at hcal
      generalize (g k).1 = gk at *
      generalize (g k).2 = gt at *
      clear hfk hc
      cases hB : f k
      · rw [hB] at hcal
        have HNO : Hid (pall f n = false) := pall_no hlt hB
        clear hB
        go_wp2_with (go_at_call 116; (with_reducible refine hcal.mono ?_); rintro e w6 ⟨rfl, b6⟩)
        go_ret
        exact ⟨_, rfl, by rw [HNO.out]; simp, BV.trans (b6.mono BV.size)⟩
      · rw [hB] at hcal
        have HB2 : Hid (f k = true) := hB
        clear hB
        go_wp2_with (go_at_call 116; (with_reducible refine hcal.mono ?_); rintro e w6 ⟨rfl, b6⟩)
        go_roundw
        case rel => exact ⟨k + 1, by omega, by go_num, BV.trans (b6.mono BV.size), fun j hj => by
          rcases Nat.lt_succ_iff_lt_or_eq.1 hj with h | h
          · exact HZ.out j h
          · rw [h]; exact HB2.out⟩
        case measure => simp [intOf]; omega
    · obtain rfl : k = n := by omega
      have t1 : decide ((k : Int) < (k : Int)) = false := by simp
      have HY : Hid (pall f k = true) := (pall_iff f k).2 HZ.out
      go_wp2
      go_ret
      exact ⟨-1, rfl, by rw [HY.out]; rfl, BV⟩
set_option maxHeartbeats 1000000 in
theorem containsAsk_any (p : Nat) (hp : 1 ≤ p) (hq : p ≤ 5) (pf : Nat) (ko : Option Addr) (n kc : Nat) (g : Nat → Int × ByteArray) (w : World) (h : Kf w ko n g) (hf : w.cell? ⟨pf, 0, none⟩ = some (fv p)) :
    Calls Tryz.prog 61 #[.slice ko n kc, .func (.func 116) #[] #[.pointer (some ⟨pf, 0, none⟩)]] w fun e w' => e = .returned (.bool (!kallB p n g)) ∧ Below w.heap.size w w' := by
  have hc := indexAsk_any p hp hq pf ko n kc g w h hf
  generalize kallB p n g = B at *
  go_enter Tryz.func61, Tryz.ntmps61
  go_wp2_with (go_at_call 93; (with_reducible refine hc.mono ?_); rintro e w6 ⟨i, rfl, hi, b6⟩; have HI : Hid (decide (0 ≤ i) = !B) := hi; clear hi)
  go_ret
  exact ⟨ret_bool HI.out, b6⟩
set_option maxHeartbeats 1000000 in
theorem areAll_any (p : Nat) (hp : 1 ≤ p) (hq : p ≤ 5) (ko : Option Addr) (n kc : Nat) (g : Nat → Int × ByteArray) (w : World) (h : Kf w ko n g) :
    Calls Tryz.prog 90 #[.slice ko n kc, fv p] w fun e w' => e = .returned (.bool (kallB p n g)) ∧ Below w.heap.size w w' := by
  have k0 := box_below w (.cells #[fv p] 41)
  have hc := containsAsk_any p hp hq w.heap.size ko n kc g _ (h.below k0 (Nat.le_refl _)) (Boxed.new w 41 (fv p)).cell
  have hcl : ∃ F, fv p = .func F #[] #[] := ⟨_, rfl⟩
  obtain ⟨F, hF⟩ := hcl
  rw [hF] at hc k0 ⊢
  clear hF
  generalize kallB p n g = B at *
  go_enter Tryz.func90, Tryz.ntmps90
  go_wp2_with (go_at_call 61; (with_reducible refine hc.mono ?_); rintro e w6 ⟨rfl, b6⟩)
  go_ret
  exact ⟨ret_bool (by simp), k0.trans (b6.mono k0.size)⟩
set_option maxHeartbeats 1000000 in
theorem areArms_any (p : Nat) (hp : 1 ≤ p) (hq : p ≤ 5) (ko : Option Addr) (n kc : Nat) (g : Nat → Int × ByteArray) (w : World) (h : Kf w ko n g) :
    Calls Tryz.prog 88 #[.slice ko n kc, fv p] w fun e w' => e = .returned (.bool (decide (2 ≤ n) && (decide (n ≤ 17) && kallB p n g))) ∧ Below w.heap.size w w' := by
  have hc := areAll_any p hp hq ko n kc g w h
  obtain ⟨F, hF⟩ : ∃ F, fv p = .func F #[] #[] := ⟨_, rfl⟩
  rw [hF] at hc ⊢
  clear hF h
  generalize kallB p n g = B at *
  by_cases h2 : 2 ≤ n
  · by_cases h17 : n ≤ 17
    · have t1 : decide ((2 : Int) ≤ (n : Int)) = true := by simp; omega
      have t2 : decide ((n : Int) ≤ 17) = true := by simp; omega
      have d1 : decide (2 ≤ n) = true := by simp; omega
      have d2 : decide (n ≤ 17) = true := by simp; omega
      rw [d1, d2, Bool.true_and, Bool.true_and]
      clear h2 h17
      go_enter Tryz.func88, Tryz.ntmps88
      go_wp2_with (go_at_call 90; (with_reducible refine hc.mono ?_); rintro e w6 ⟨rfl, b6⟩)
      go_ret
      exact ⟨rfl, b6⟩
    · have t1 : decide ((2 : Int) ≤ (n : Int)) = true := by simp; omega
      have t2 : decide ((n : Int) ≤ 17) = false := by simp; omega
      have d1 : decide (2 ≤ n) = true := by simp; omega
      have d2 : decide (n ≤ 17) = false := by simp; omega
      rw [d1, d2, Bool.true_and, Bool.false_and]
      clear h2 h17
      go_enter Tryz.func88, Tryz.ntmps88
      go_wp2
      go_ret
      exact ⟨rfl, Below.refl _ _⟩
  · have t1 : decide ((2 : Int) ≤ (n : Int)) = false := by simp; omega
    have d1 : decide (2 ≤ n) = false := by simp; omega
    rw [d1, Bool.false_and]
    clear h2
    go_enter Tryz.func88, Tryz.ntmps88
    go_wp2
    go_ret
    exact ⟨rfl, Below.refl _ _⟩
end Go.Proofs.YtiahilelcppfgaaGreat
