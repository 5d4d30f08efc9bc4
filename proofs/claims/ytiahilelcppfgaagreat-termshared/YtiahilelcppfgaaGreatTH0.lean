
/- Package term: kidsFit. -/

import Derived.Test.YtiahilelcppfgaaGreatTF

import Derived.RangeFuncBox

namespace Go.Proofs.YtiahilelcppfgaaGreat

open Go.RowKit

set_option linter.unusedVariables false

/-- Is each as is asked? -/
def kallB (p n : Nat) (g : Nat → Int × ByteArray) : Bool := pall (fun i => askB p (g i).1 (g i).2) n
set_option maxHeartbeats 4000000 in
theorem indexAsk_any (p : Nat) (hp : 1 ≤ p) (hq : p ≤ 5) (pf : Nat) (ko : Option Addr) (n kc : Nat) (g : Nat → Int × ByteArray) (w : World) (h : Kf w ko n g) (hf : w.cell? ⟨pf, 0, none⟩ = some (fv p)) :
    Calls Tryz.prog 93 #[.slice ko n kc, .func (.func 116) #[] #[.pointer (some ⟨pf, 0, none⟩)]] w fun e w' => ∃ i : Int, e = .returned (.int .i64 i) ∧ decide (0 ≤ i) = (!kallB p n g) ∧ Below w.heap.size w w' := by
  have hrm := h.room
  obtain ⟨f, hff⟩ : ∃ f : Nat → Bool, f = fun i => askB p (g i).1 (g i).2 := ⟨_, rfl⟩
  have hfi : Hid (∀ i, f i = askB p (g i).1 (g i).2) := fun i => by rw [hff]
  have HB : kallB p n g = pall f n := by rw [hff]; rfl
  rw [HB]
  clear HB hff
  have lf := World.block_lt_of_cell? w _ hf
  go_enter Tryz.func93, Tryz.ntmps93
  go_wp2
  go_loopw [8] (fun i V => ∃ k : Nat, k ≤ n ∧ i = .int .i64 (k : Nat) ∧ Below w.heap.size w V ∧ ∀ j, j < k → f j = true) (fun i _ => n - (intOf i).toNat)
  case atStart => exact ⟨0, Nat.zero_le _, rfl, Below.refl _ _, fun j hj => by omega⟩
  case round =>
    obtain ⟨k, hk, rfl, BV, hz⟩ := hrel
    have HZ : Hid (∀ j, j < k → f j = true) := hz
    clear hz
    by_cases hlt : k < n
    · have t1 : decide ((k : Int) < (n : Int)) = true := by simp; omega
      have bk : (k : Int) < (n : Int) := by omega
      obtain ⟨b, off, rfl, hb, hc⟩ := h.cells (by omega)
      obtain ⟨m, so, sn, sc, ao, an, ac, uo, un, uc, q0, q1, q2, q3, q4, q5⟩ := hc k hlt
      replace q0 := (BV.cell (p := ⟨b, off + k * 6, none⟩) hb).trans q0
      replace q1 := (BV.cell (p := ⟨b, off + k * 6 + 1, none⟩) hb).trans q1
      replace q2 := (BV.cell (p := ⟨b, off + k * 6 + 2, none⟩) hb).trans q2
      replace q3 := (BV.cell (p := ⟨b, off + k * 6 + 3, none⟩) hb).trans q3
      replace q4 := (BV.cell (p := ⟨b, off + k * 6 + 4, none⟩) hb).trans q4
      replace q5 := (BV.cell (p := ⟨b, off + k * 6 + 5, none⟩) hb).trans q5
      have hcal := askAll1_any p hp hq pf (g k).1 m (g k).2 so ao uo sn sc an ac un uc wr ((BV.cell (p := ⟨pf, 0, none⟩) lf).trans hf)
      have hfk := hfi.out k
      rw [← hfk] at hcal
      generalize (g k).1 = gk at *
      generalize (g k).2 = gt at *
      clear hfk hc
      cases hB : f k
      · rw [hB] at hcal
        have HNO : Hid (pall f n = false) := pall_no hlt hB
        clear hB
        go_wp2_with (go_at_call 116; (with_reducible refine hcal.mono ?_); rintro e w6 ⟨rfl, b6⟩)
        go_ret
        exact ⟨_, rfl, by rw [HNO.out]; simp, BV.trans (b6.mono BV.size)⟩
      · rw [hB] at hcal
        have HB2 : Hid (f k = true) := hB
        clear hB
        go_wp2_with (go_at_call 116; (with_reducible refine hcal.mono ?_); rintro e w6 ⟨rfl, b6⟩)
        go_roundw
        case rel => exact ⟨k + 1, by omega, by go_num, BV.trans (b6.mono BV.size), fun j hj => by
          rcases Nat.lt_succ_iff_lt_or_eq.1 hj with h | h
          · exact HZ.out j h
          · rw [h]; exact HB2.out⟩
        case measure => simp [intOf]; omega
    · obtain rfl : k = n := by omega
      have t1 : decide ((k : Int) < (k : Int)) = false := by simp
      have HY : Hid (pall f k = true) := (pall_iff f k).2 HZ.out
      go_wp2
      go_ret
      exact ⟨-1, rfl, by rw [HY.out]; rfl, BV⟩
set_option maxHeartbeats 1000000 in
theorem containsAsk_any (p : Nat) (hp : 1 ≤ p) (hq : p ≤ 5) (pf : Nat) (ko : Option Addr) (n kc : Nat) (g : Nat → Int × ByteArray) (w : World) (h : Kf w ko n g) (hf : w.cell? ⟨pf, 0, none⟩ = some (fv p)) :
    Calls Tryz.prog 61 #[.slice ko n kc, .func (.func 116) #[] #[.pointer (some ⟨pf, 0, none⟩)]] w fun e w' => e = .returned (.bool (!kallB p n g)) ∧ Below w.heap.size w w' := by
  have hc := indexAsk_any p hp hq pf ko n kc g w h hf
  generalize kallB p n g = B at *
  go_enter Tryz.func61, Tryz.ntmps61
  go_wp2_with (go_at_call 93; (with_reducible refine hc.mono ?_); rintro e w6 ⟨i, rfl, hi, b6⟩; have HI : Hid (decide (0 ≤ i) = !B) := hi; clear hi)
  go_ret
  exact ⟨ret_bool HI.out, b6⟩
set_option maxHeartbeats 1000000 in
theorem areAll_any (p : Nat) (hp : 1 ≤ p) (hq : p ≤ 5) (ko : Option Addr) (n kc : Nat) (g : Nat → Int × ByteArray) (w : World) (h : Kf w ko n g) :
    Calls Tryz.prog 90 #[.slice ko n kc, fv p] w fun e w' => e = .returned (.bool (kallB p n g)) ∧ Below w.heap.size w w' := by
  have k0 := box_below w (.cells #[fv p] 41)
  have hc := containsAsk_any p hp hq w.heap.size ko n kc g _ (h.below k0 (Nat.le_refl _)) (Boxed.new w 41 (fv p)).cell
  have hcl : ∃ F, fv p = .func F #[] #[] := ⟨_, rfl⟩
  obtain ⟨F, hF⟩ := hcl
  rw [hF] at hc k0 ⊢
  clear hF
  generalize kallB p n g = B at *
  go_enter Tryz.func90, Tryz.ntmps90
  go_wp2_with (go_at_call 61; (with_reducible refine hc.mono ?_); rintro e w6 ⟨rfl, b6⟩)
  go_ret
  exact ⟨ret_bool (by simp), k0.trans (b6.mono k0.size)⟩
set_option maxHeartbeats 1000000 in
theorem areArms_any (p : Nat) (hp : 1 ≤ p) (hq : p ≤ 5) (ko : Option Addr) (n kc : Nat) (g : Nat → Int × ByteArray) (w : World) (h : Kf w ko n g) :
    Calls Tryz.prog 88 #[.slice ko n kc, fv p] w fun e w' => e = .returned (.bool (decide (2 ≤ n) && (decide (n ≤ 17) && kallB p n g))) ∧ Below w.heap.size w w' := by
  have hc := areAll_any p hp hq ko n kc g w h
  obtain ⟨F, hF⟩ : ∃ F, fv p = .func F #[] #[] := ⟨_, rfl⟩
  rw [hF] at hc ⊢
  clear hF h
  generalize kallB p n g = B at *
  by_cases h2 : 2 ≤ n
  · by_cases h17 : n ≤ 17
    · have t1 : decide ((2 : Int) ≤ (n : Int)) = true := by simp; omega
      have t2 : decide ((n : Int) ≤ 17) = true := by simp; omega
      have d1 : decide (2 ≤ n) = true := by simp; omega
      have d2 : decide (n ≤ 17) = true := by simp; omega
      rw [d1, d2, Bool.true_and, Bool.true_and]
      clear h2 h17
      go_enter Tryz.func88, Tryz.ntmps88
      go_wp2_with (go_at_call 90; (with_reducible refine hc.mono ?_); rintro e w6 ⟨rfl, b6⟩)
      go_ret
      exact ⟨rfl, b6⟩
    · have t1 : decide ((2 : Int) ≤ (n : Int)) = true := by simp; omega
      have t2 : decide ((n : Int) ≤ 17) = false := by simp; omega
      have d1 : decide (2 ≤ n) = true := by simp; omega
      have d2 : decide (n ≤ 17) = false := by simp; omega
      rw [d1, d2, Bool.true_and, Bool.false_and]
      clear h2 h17
      go_enter Tryz.func88, Tryz.ntmps88
      go_wp2
      go_ret
      exact ⟨rfl, Below.refl _ _⟩
  · have t1 : decide ((2 : Int) ≤ (n : Int)) = false := by simp; omega
    have d1 : decide (2 ≤ n) = false := by simp; omega
    rw [d1, Bool.false_and]
    clear h2
    go_enter Tryz.func88, Tryz.ntmps88
    go_wp2
    go_ret
    exact ⟨rfl, Below.refl _ _⟩
end Go.Proofs.YtiahilelcppfgaaGreat

namespace Go.Proofs.YtiahilelcppfgaaGreat

open Go.RowKit

set_option linter.unusedVariables false

/-- May a node of kind k have these kids? -/
def kidB (k : Int) (n : Nat) (g : Nat → Int × ByteArray) : Bool :=
  if k = 1 ∨ k = 2 ∨ k = 20 ∨ k = 21 then kaB [] n g else
  if k = 3 then kaB [2, 1] n g else
  if k = 4 then kaB [2, 1, 1] n g else
  if k = 5 then (decide (2 ≤ n) && (decide (n ≤ 17) && kallB 1 n g)) else
  if k = 10 ∨ k = 11 then kaB [1] n g else
  if k = 12 then kaB [1, 3, 3] n g else
  if k = 13 then kaB [1, 3] n g else
  if k = 14 then kallB 4 n g else
  if k = 22 then kaB [5] n g else
  if k = 23 then kaB [3] n g else
  if k = 24 ∨ k = 25 ∨ k = 26 ∨ k = 27 ∨ k = 42 then kaB [2] n g else
  if k = 28 ∨ k = 29 ∨ k = 30 ∨ k = 31 ∨ k = 32 ∨ k = 33 ∨ k = 34 ∨ k = 35 ∨ k = 36 ∨ k = 37 ∨ k = 38 ∨ k = 44 ∨ k = 46 then kaB [2, 2] n g else
  if k = 39 then kaB [5, 2] n g else
  if k = 40 ∨ k = 41 then kaB [2, 5] n g else
  if k = 43 then (decide (2 ≤ n) && (decide (n ≤ 17) && kallB 2 n g)) else
  if k = 45 then kaB [2, 2, 2] n g else
  false
theorem wq_lit (W : World) (T : TypeId) (ps : List Nat) (hp : ∀ p, p ∈ ps → 1 ≤ p ∧ p ≤ 5) (hl : ps.length ≤ 100) : Wq (W.alloc (.cells (ps.map fv).toArray T)) (some ⟨W.heap.size, 0, none⟩) ps := by
  refine ⟨hp, hl, fun h0 => ⟨W.heap.size, 0, rfl, by simp, fun i p hi => ?_⟩⟩
  have e := cell_of_row _ W.heap.size i _ T (0, 0) (allocNew W (.cells (ps.map fv).toArray T))
  rw [Nat.zero_add]
  rw [e]
  simp [hi]
theorem wq_nil (W : World) : Wq W none [] := ⟨fun p h => (by cases h), by simp, fun h => absurd h (by simp)⟩
end Go.Proofs.YtiahilelcppfgaaGreat

namespace Go.Proofs.YtiahilelcppfgaaGreat

open Go.RowKit

set_option linter.unusedVariables false

set_option maxHeartbeats 4000000 in
theorem kidsFit_1 (t : ByteArray) (m : Int) (so ao ko : Option Addr) (sn sc an ac n kc : Nat) (g : Nat → Int × ByteArray) (w : World) (h : Kf w ko n g) :
    Calls Tryz.prog 59 #[.agg #[.int .i64 1, .string t, .int .i64 m, .slice so sn sc, .slice ao an ac, .slice ko n kc]] w fun e w' => e = .returned (.bool (kidB 1 n g)) ∧ Below w.heap.size w w' := by
  have k0 := box_below w (.cells #[.int .i64 1, .string t, .int .i64 m, .slice so sn sc, .slice ao an ac, .slice ko n kc] 31)
  obtain ⟨b0, b1, b2, b3, b4, b5⟩ := box6 (allocNew w (.cells #[.int .i64 1, .string t, .int .i64 m, .slice so sn sc, .slice ao an ac, .slice ko n kc] 31))
  rw [show kidB 1 n g = kaB [] n g from rfl]
  have hc := kidsAre_any ko n kc g none 0 [] _ (h.below k0 (Nat.le_refl _)) (wq_nil _)
  rw [show ([] : List Nat).length = 0 from rfl] at hc
  generalize kaB [] n g = B at *
  go_enter Tryz.func59, Tryz.ntmps59
  go_wp2_with (go_at_call 85; (with_reducible refine hc.mono ?_); rintro e w6 ⟨rfl, b6⟩)
  go_ret
  exact ⟨rfl, k0.trans (b6.mono k0.size)⟩
set_option maxHeartbeats 4000000 in
theorem kidsFit_2 (t : ByteArray) (m : Int) (so ao ko : Option Addr) (sn sc an ac n kc : Nat) (g : Nat → Int × ByteArray) (w : World) (h : Kf w ko n g) :
    Calls Tryz.prog 59 #[.agg #[.int .i64 2, .string t, .int .i64 m, .slice so sn sc, .slice ao an ac, .slice ko n kc]] w fun e w' => e = .returned (.bool (kidB 2 n g)) ∧ Below w.heap.size w w' := by
  have k0 := box_below w (.cells #[.int .i64 2, .string t, .int .i64 m, .slice so sn sc, .slice ao an ac, .slice ko n kc] 31)
  obtain ⟨b0, b1, b2, b3, b4, b5⟩ := box6 (allocNew w (.cells #[.int .i64 2, .string t, .int .i64 m, .slice so sn sc, .slice ao an ac, .slice ko n kc] 31))
  rw [show kidB 2 n g = kaB [] n g from rfl]
  have hc := kidsAre_any ko n kc g none 0 [] _ (h.below k0 (Nat.le_refl _)) (wq_nil _)
  rw [show ([] : List Nat).length = 0 from rfl] at hc
  generalize kaB [] n g = B at *
  go_enter Tryz.func59, Tryz.ntmps59
  go_wp2_with (go_at_call 85; (with_reducible refine hc.mono ?_); rintro e w6 ⟨rfl, b6⟩)
  go_ret
  exact ⟨rfl, k0.trans (b6.mono k0.size)⟩
set_option maxHeartbeats 4000000 in
theorem kidsFit_20 (t : ByteArray) (m : Int) (so ao ko : Option Addr) (sn sc an ac n kc : Nat) (g : Nat → Int × ByteArray) (w : World) (h : Kf w ko n g) :
    Calls Tryz.prog 59 #[.agg #[.int .i64 20, .string t, .int .i64 m, .slice so sn sc, .slice ao an ac, .slice ko n kc]] w fun e w' => e = .returned (.bool (kidB 20 n g)) ∧ Below w.heap.size w w' := by
  have k0 := box_below w (.cells #[.int .i64 20, .string t, .int .i64 m, .slice so sn sc, .slice ao an ac, .slice ko n kc] 31)
  obtain ⟨b0, b1, b2, b3, b4, b5⟩ := box6 (allocNew w (.cells #[.int .i64 20, .string t, .int .i64 m, .slice so sn sc, .slice ao an ac, .slice ko n kc] 31))
  rw [show kidB 20 n g = kaB [] n g from rfl]
  have hc := kidsAre_any ko n kc g none 0 [] _ (h.below k0 (Nat.le_refl _)) (wq_nil _)
  rw [show ([] : List Nat).length = 0 from rfl] at hc
  generalize kaB [] n g = B at *
  go_enter Tryz.func59, Tryz.ntmps59
  go_wp2_with (go_at_call 85; (with_reducible refine hc.mono ?_); rintro e w6 ⟨rfl, b6⟩)
  go_ret
  exact ⟨rfl, k0.trans (b6.mono k0.size)⟩
set_option maxHeartbeats 4000000 in
theorem kidsFit_21 (t : ByteArray) (m : Int) (so ao ko : Option Addr) (sn sc an ac n kc : Nat) (g : Nat → Int × ByteArray) (w : World) (h : Kf w ko n g) :
    Calls Tryz.prog 59 #[.agg #[.int .i64 21, .string t, .int .i64 m, .slice so sn sc, .slice ao an ac, .slice ko n kc]] w fun e w' => e = .returned (.bool (kidB 21 n g)) ∧ Below w.heap.size w w' := by
  have k0 := box_below w (.cells #[.int .i64 21, .string t, .int .i64 m, .slice so sn sc, .slice ao an ac, .slice ko n kc] 31)
  obtain ⟨b0, b1, b2, b3, b4, b5⟩ := box6 (allocNew w (.cells #[.int .i64 21, .string t, .int .i64 m, .slice so sn sc, .slice ao an ac, .slice ko n kc] 31))
  rw [show kidB 21 n g = kaB [] n g from rfl]
  have hc := kidsAre_any ko n kc g none 0 [] _ (h.below k0 (Nat.le_refl _)) (wq_nil _)
  rw [show ([] : List Nat).length = 0 from rfl] at hc
  generalize kaB [] n g = B at *
  go_enter Tryz.func59, Tryz.ntmps59
  go_wp2_with (go_at_call 85; (with_reducible refine hc.mono ?_); rintro e w6 ⟨rfl, b6⟩)
  go_ret
  exact ⟨rfl, k0.trans (b6.mono k0.size)⟩
set_option maxHeartbeats 4000000 in
theorem kidsFit_3 (t : ByteArray) (m : Int) (so ao ko : Option Addr) (sn sc an ac n kc : Nat) (g : Nat → Int × ByteArray) (w : World) (h : Kf w ko n g) :
    Calls Tryz.prog 59 #[.agg #[.int .i64 3, .string t, .int .i64 m, .slice so sn sc, .slice ao an ac, .slice ko n kc]] w fun e w' => e = .returned (.bool (kidB 3 n g)) ∧ Below w.heap.size w w' := by
  have k0 := box_below w (.cells #[.int .i64 3, .string t, .int .i64 m, .slice so sn sc, .slice ao an ac, .slice ko n kc] 31)
  obtain ⟨b0, b1, b2, b3, b4, b5⟩ := box6 (allocNew w (.cells #[.int .i64 3, .string t, .int .i64 m, .slice so sn sc, .slice ao an ac, .slice ko n kc] 31))
  rw [show kidB 3 n g = kaB [2, 1] n g from rfl]
  have k1 := box_below (w.alloc (.cells #[.int .i64 3, .string t, .int .i64 m, .slice so sn sc, .slice ao an ac, .slice ko n kc] 31)) (.cells #[.func (.func 86) #[] #[], .func (.func 87) #[] #[]] 41)
  have hc := kidsAre_any ko n kc g (some ⟨(w.alloc (.cells #[.int .i64 3, .string t, .int .i64 m, .slice so sn sc, .slice ao an ac, .slice ko n kc] 31)).heap.size, 0, none⟩) 2 [2, 1] _ ((h.below k0 (Nat.le_refl _)).below k1 (Nat.le_refl _)) (wq_lit (w.alloc (.cells #[.int .i64 3, .string t, .int .i64 m, .slice so sn sc, .slice ao an ac, .slice ko n kc] 31)) 41 [2, 1] (by decide) (by decide))
  rw [show (([2, 1] : List Nat).length) = 2 from rfl, World.size_alloc] at hc
  have k2 := k0.trans (k1.mono k0.size)
  generalize kaB [2, 1] n g = B at *
  go_enter Tryz.func59, Tryz.ntmps59
  go_wp2_with (go_at_call 85; (with_reducible refine hc.mono ?_); rintro e w6 ⟨rfl, b6⟩)
  go_ret
  exact ⟨rfl, k2.trans (b6.mono k2.size)⟩
set_option maxHeartbeats 4000000 in
theorem kidsFit_4 (t : ByteArray) (m : Int) (so ao ko : Option Addr) (sn sc an ac n kc : Nat) (g : Nat → Int × ByteArray) (w : World) (h : Kf w ko n g) :
    Calls Tryz.prog 59 #[.agg #[.int .i64 4, .string t, .int .i64 m, .slice so sn sc, .slice ao an ac, .slice ko n kc]] w fun e w' => e = .returned (.bool (kidB 4 n g)) ∧ Below w.heap.size w w' := by
  have k0 := box_below w (.cells #[.int .i64 4, .string t, .int .i64 m, .slice so sn sc, .slice ao an ac, .slice ko n kc] 31)
  obtain ⟨b0, b1, b2, b3, b4, b5⟩ := box6 (allocNew w (.cells #[.int .i64 4, .string t, .int .i64 m, .slice so sn sc, .slice ao an ac, .slice ko n kc] 31))
  rw [show kidB 4 n g = kaB [2, 1, 1] n g from rfl]
  have k1 := box_below (w.alloc (.cells #[.int .i64 4, .string t, .int .i64 m, .slice so sn sc, .slice ao an ac, .slice ko n kc] 31)) (.cells #[.func (.func 86) #[] #[], .func (.func 87) #[] #[], .func (.func 87) #[] #[]] 41)
  have hc := kidsAre_any ko n kc g (some ⟨(w.alloc (.cells #[.int .i64 4, .string t, .int .i64 m, .slice so sn sc, .slice ao an ac, .slice ko n kc] 31)).heap.size, 0, none⟩) 3 [2, 1, 1] _ ((h.below k0 (Nat.le_refl _)).below k1 (Nat.le_refl _)) (wq_lit (w.alloc (.cells #[.int .i64 4, .string t, .int .i64 m, .slice so sn sc, .slice ao an ac, .slice ko n kc] 31)) 41 [2, 1, 1] (by decide) (by decide))
  rw [show (([2, 1, 1] : List Nat).length) = 3 from rfl, World.size_alloc] at hc
  have k2 := k0.trans (k1.mono k0.size)
  generalize kaB [2, 1, 1] n g = B at *
  go_enter Tryz.func59, Tryz.ntmps59
  go_wp2_with (go_at_call 85; (with_reducible refine hc.mono ?_); rintro e w6 ⟨rfl, b6⟩)
  go_ret
  exact ⟨rfl, k2.trans (b6.mono k2.size)⟩
set_option maxHeartbeats 4000000 in
theorem kidsFit_5 (t : ByteArray) (m : Int) (so ao ko : Option Addr) (sn sc an ac n kc : Nat) (g : Nat → Int × ByteArray) (w : World) (h : Kf w ko n g) :
    Calls Tryz.prog 59 #[.agg #[.int .i64 5, .string t, .int .i64 m, .slice so sn sc, .slice ao an ac, .slice ko n kc]] w fun e w' => e = .returned (.bool (kidB 5 n g)) ∧ Below w.heap.size w w' := by
  have k0 := box_below w (.cells #[.int .i64 5, .string t, .int .i64 m, .slice so sn sc, .slice ao an ac, .slice ko n kc] 31)
  obtain ⟨b0, b1, b2, b3, b4, b5⟩ := box6 (allocNew w (.cells #[.int .i64 5, .string t, .int .i64 m, .slice so sn sc, .slice ao an ac, .slice ko n kc] 31))
  rw [show kidB 5 n g = (decide (2 ≤ n) && (decide (n ≤ 17) && kallB 1 n g)) from rfl]
  have hc := areArms_any 1 (by decide) (by decide) ko n kc g _ (h.below k0 (Nat.le_refl _))
  rw [show fv 1 = .func (.func 87) #[] #[] from rfl] at hc
  generalize (decide (2 ≤ n) && (decide (n ≤ 17) && kallB 1 n g)) = B at *
  go_enter Tryz.func59, Tryz.ntmps59
  go_wp2_with (go_at_call 88; (with_reducible refine hc.mono ?_); rintro e w6 ⟨rfl, b6⟩)
  go_ret
  exact ⟨rfl, k0.trans (b6.mono k0.size)⟩
set_option maxHeartbeats 4000000 in
theorem kidsFit_10 (t : ByteArray) (m : Int) (so ao ko : Option Addr) (sn sc an ac n kc : Nat) (g : Nat → Int × ByteArray) (w : World) (h : Kf w ko n g) :
    Calls Tryz.prog 59 #[.agg #[.int .i64 10, .string t, .int .i64 m, .slice so sn sc, .slice ao an ac, .slice ko n kc]] w fun e w' => e = .returned (.bool (kidB 10 n g)) ∧ Below w.heap.size w w' := by
  have k0 := box_below w (.cells #[.int .i64 10, .string t, .int .i64 m, .slice so sn sc, .slice ao an ac, .slice ko n kc] 31)
  obtain ⟨b0, b1, b2, b3, b4, b5⟩ := box6 (allocNew w (.cells #[.int .i64 10, .string t, .int .i64 m, .slice so sn sc, .slice ao an ac, .slice ko n kc] 31))
  rw [show kidB 10 n g = kaB [1] n g from rfl]
  have k1 := box_below (w.alloc (.cells #[.int .i64 10, .string t, .int .i64 m, .slice so sn sc, .slice ao an ac, .slice ko n kc] 31)) (.cells #[.func (.func 87) #[] #[]] 41)
  have hc := kidsAre_any ko n kc g (some ⟨(w.alloc (.cells #[.int .i64 10, .string t, .int .i64 m, .slice so sn sc, .slice ao an ac, .slice ko n kc] 31)).heap.size, 0, none⟩) 1 [1] _ ((h.below k0 (Nat.le_refl _)).below k1 (Nat.le_refl _)) (wq_lit (w.alloc (.cells #[.int .i64 10, .string t, .int .i64 m, .slice so sn sc, .slice ao an ac, .slice ko n kc] 31)) 41 [1] (by decide) (by decide))
  rw [show (([1] : List Nat).length) = 1 from rfl, World.size_alloc] at hc
  have k2 := k0.trans (k1.mono k0.size)
  generalize kaB [1] n g = B at *
  go_enter Tryz.func59, Tryz.ntmps59
  go_wp2_with (go_at_call 85; (with_reducible refine hc.mono ?_); rintro e w6 ⟨rfl, b6⟩)
  go_ret
  exact ⟨rfl, k2.trans (b6.mono k2.size)⟩
set_option maxHeartbeats 4000000 in
theorem kidsFit_11 (t : ByteArray) (m : Int) (so ao ko : Option Addr) (sn sc an ac n kc : Nat) (g : Nat → Int × ByteArray) (w : World) (h : Kf w ko n g) :
    Calls Tryz.prog 59 #[.agg #[.int .i64 11, .string t, .int .i64 m, .slice so sn sc, .slice ao an ac, .slice ko n kc]] w fun e w' => e = .returned (.bool (kidB 11 n g)) ∧ Below w.heap.size w w' := by
  have k0 := box_below w (.cells #[.int .i64 11, .string t, .int .i64 m, .slice so sn sc, .slice ao an ac, .slice ko n kc] 31)
  obtain ⟨b0, b1, b2, b3, b4, b5⟩ := box6 (allocNew w (.cells #[.int .i64 11, .string t, .int .i64 m, .slice so sn sc, .slice ao an ac, .slice ko n kc] 31))
  rw [show kidB 11 n g = kaB [1] n g from rfl]
  have k1 := box_below (w.alloc (.cells #[.int .i64 11, .string t, .int .i64 m, .slice so sn sc, .slice ao an ac, .slice ko n kc] 31)) (.cells #[.func (.func 87) #[] #[]] 41)
  have hc := kidsAre_any ko n kc g (some ⟨(w.alloc (.cells #[.int .i64 11, .string t, .int .i64 m, .slice so sn sc, .slice ao an ac, .slice ko n kc] 31)).heap.size, 0, none⟩) 1 [1] _ ((h.below k0 (Nat.le_refl _)).below k1 (Nat.le_refl _)) (wq_lit (w.alloc (.cells #[.int .i64 11, .string t, .int .i64 m, .slice so sn sc, .slice ao an ac, .slice ko n kc] 31)) 41 [1] (by decide) (by decide))
  rw [show (([1] : List Nat).length) = 1 from rfl, World.size_alloc] at hc
  have k2 := k0.trans (k1.mono k0.size)
  generalize kaB [1] n g = B at *
  go_enter Tryz.func59, Tryz.ntmps59
  go_wp2_with (go_at_call 85; (with_reducible refine hc.mono ?_); rintro e w6 ⟨rfl, b6⟩)
  go_ret
  exact ⟨rfl, k2.trans (b6.mono k2.size)⟩
end Go.Proofs.YtiahilelcppfgaaGreat
