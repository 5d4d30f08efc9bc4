
/- Package term: a node's number and array. -/

import Derived.Test.YtiahilelcppfgaaGreatTE

namespace Go.Proofs.YtiahilelcppfgaaGreat

open Go.RowKit

set_option linter.unusedVariables false

def numB (k n : Int) : Bool := if k = 23 then decide (n = 1) || decide (n = 2) else decide (n = 0)
set_option maxHeartbeats 1000000 in
theorem numberFits_any (k n : Int) (t : ByteArray) (so ao ko : Option Addr) (sn sc an ac kn kc : Nat) (w : World) :
    Calls Tryz.prog 57 #[.agg #[.int .i64 k, .string t, .int .i64 n, .slice so sn sc, .slice ao an ac, .slice ko kn kc]] w fun e w' => e = .returned (.bool (numB k n)) ∧ Below w.heap.size w w' := by
  have k0 := box_below w (.cells #[.int .i64 k, .string t, .int .i64 n, .slice so sn sc, .slice ao an ac, .slice ko kn kc] 31)
  obtain ⟨b0, b1, b2, b3, b4, b5⟩ := box6 (allocNew w (.cells #[.int .i64 k, .string t, .int .i64 n, .slice so sn sc, .slice ao an ac, .slice ko kn kc] 31))
  by_cases h : k = 23
  · have e1 : (k == 23) = true := by simp [h]
    have hA : numB k n = (decide (n = 1) || decide (n = 2)) := by unfold numB; rw [if_pos h]
    rw [hA]
    clear hA h
    by_cases h1 : n = 1
    · have e2 : (n == 1) = true := by simp [h1]
      have d2 : decide (n = 1) = true := by simp [h1]
      rw [d2, Bool.true_or]
      clear d2 h1
      go_enter Tryz.func57, Tryz.ntmps57
      go_wp2
      go_ret
      exact ⟨rfl, k0⟩
    · have e2 : (n == 1) = false := by simp [h1]
      have d2 : decide (n = 1) = false := by simp [h1]
      rw [d2, Bool.false_or]
      clear d2 h1
      go_enter Tryz.func57, Tryz.ntmps57
      go_wp2
      go_ret
      exact ⟨rfl, k0⟩
  · have e1 : (k == 23) = false := by simp [h]
    have hA : numB k n = decide (n = 0) := by unfold numB; rw [if_neg h]
    rw [hA]
    clear hA h
    go_enter Tryz.func57, Tryz.ntmps57
    go_wp2
    go_ret
    exact ⟨rfl, k0⟩

def scB (s a : List Int) : Bool := decide (s.length = 0) && decide (a.length = 1)
def lsB (lo hi : Nat) (s a : List Int) : Bool := decide (s.length = 1) && (decide (nth s 0 = (a.length : Nat)) && (decide (lo ≤ a.length) && decide (a.length ≤ hi)))
def nrB (z : Int) : Bool := (decide (z < -8) || decide (8 < z)) && !decide (z = 64)
def arrB (k : Int) (s a : List Int) : Bool :=
  if k = 1 then scB s a || lsB 2 64 s a else if k = 42 then lsB 1 3 s a && pall (fun i => !nrB (nth a i)) a.length else decide (s.length = 0) && decide (a.length = 0)
set_option maxHeartbeats 1000000 in
theorem isScalar_any (so ao : Option Addr) (sn sc an ac : Nat) (s a : List Int) (w : World) (hs : Rd w so sn s) (ha : Rd w ao an a) :
    Calls Tryz.prog 81 #[.agg #[.slice so sn sc, .slice ao an ac]] w fun e w' => e = .returned (.bool (scB s a)) ∧ Below w.heap.size w w' := by
  have k0 := box_below w (.cells #[.slice so sn sc, .slice ao an ac] 28)
  obtain ⟨b0, b1, _, _⟩ := box2 (allocNew w (.cells #[.slice so sn sc, .slice ao an ac] 28))
  unfold scB
  rw [hs.len, ha.len]
  by_cases h1 : sn = 0
  · have e1 : ((sn : Int) == 0) = true := by simp [h1]
    have d1 : decide (sn = 0) = true := by simp [h1]
    rw [d1, Bool.true_and]
    have e2 : ((an : Int) == 1) = decide (an = 1) := by
      by_cases h : an = 1
      · subst h; rfl
      · have : ((an : Int) == 1) = false := by simp; omega
        rw [this]; simp [h]
    have E2 : Hid (((an : Int) == 1) = decide (an = 1)) := e2
    clear d1 h1 e2 hs ha
    go_enter Tryz.func81, Tryz.ntmps81
    go_wp2
    go_ret
    exact ⟨ret_bool (by first | exact E2.out | (rw [← E2.out]; rfl) | simp), k0⟩
  · have e1 : ((sn : Int) == 0) = false := by simp [h1]
    have d1 : decide (sn = 0) = false := by simp [h1]
    rw [d1, Bool.false_and]
    clear d1 h1 hs ha
    go_enter Tryz.func81, Tryz.ntmps81
    go_wp2
    go_ret
    exact ⟨rfl, k0⟩
set_option maxHeartbeats 2000000 in
theorem isList_any (lo hi : Nat) (so ao : Option Addr) (sn sc an ac : Nat) (s a : List Int) (w : World) (hs : Rd w so sn s) (ha : Rd w ao an a) :
    Calls Tryz.prog 82 #[.agg #[.slice so sn sc, .slice ao an ac], .int .i64 (lo : Nat), .int .i64 (hi : Nat)] w fun e w' => e = .returned (.bool (lsB lo hi s a)) ∧ Below w.heap.size w w' := by
  have k0 := box_below w (.cells #[.slice so sn sc, .slice ao an ac] 28)
  obtain ⟨b0, b1, _, _⟩ := box2 (allocNew w (.cells #[.slice so sn sc, .slice ao an ac] 28))
  unfold lsB
  rw [hs.len, ha.len]
  by_cases h1 : sn = 1
  · have HS : Hid (sn = 1) := h1
    have e1' : (sn == 1) = true := by simp [h1]
    have e1 : ((sn : Int) == 1) = true := by simp [h1]
    have d1 : decide (sn = 1) = true := by simp [h1]
    have b1n : (0 : Int) < (sn : Int) := by omega
    rw [d1, Bool.true_and]
    obtain ⟨b, off, rfl, hb, hc⟩ := hs.cells (by omega)
    have c0 := hc 0 (by omega)
    rw [Nat.add_zero] at c0
    have c1 := (k0.cell (p := ⟨b, off, none⟩) hb).trans c0
    clear hc c0 d1 hs ha h1
    generalize nth s 0 = z at *
    by_cases h2 : z = (an : Nat)
    · have e2 : (z == (an : Int)) = true := by simp [h2]
      have d2 : decide (z = (an : Nat)) = true := by simp [h2]
      rw [d2, Bool.true_and]
      have HZ : Hid (z = (an : Nat)) := h2
      clear d2 h2
      by_cases h3 : lo ≤ an
      · have e3 : decide ((lo : Int) ≤ (an : Int)) = true := by simp; omega
        have d3 : decide (lo ≤ an) = true := by simp; omega
        rw [d3, Bool.true_and]
        have e3' : decide (lo ≤ an) = true := d3
        clear h3 d3
        go_enter Tryz.func82, Tryz.ntmps82
        go_wp2
        go_ret
        exact ⟨rfl, k0⟩
      · have e3 : decide ((lo : Int) ≤ (an : Int)) = false := by simp; omega
        have d3 : decide (lo ≤ an) = false := by simp; omega
        rw [d3, Bool.false_and]
        clear h3
        go_enter Tryz.func82, Tryz.ntmps82
        go_wp2
        go_ret
        exact ⟨rfl, k0⟩
    · have e2 : (z == (an : Int)) = false := by simp [h2]
      have d2 : decide (z = (an : Nat)) = false := by simp [h2]
      rw [d2, Bool.false_and]
      clear d2 h2
      go_enter Tryz.func82, Tryz.ntmps82
      go_wp2
      go_ret
      exact ⟨rfl, k0⟩
  · have e1 : ((sn : Int) == 1) = false := by simp; omega
    have e1' : (sn == 1) = false := by simp [h1]
    have d1 : decide (sn = 1) = false := by simp [h1]
    rw [d1, Bool.false_and]
    clear d1 h1 hs ha
    go_enter Tryz.func82, Tryz.ntmps82
    go_wp2
    go_ret
    exact ⟨rfl, k0⟩
theorem isNoRank_any (z : Int) (w : World) : Calls Tryz.prog 84 #[.int .i64 z] w fun e w' => e = .returned (.bool (nrB z)) ∧ w' = w := by
  have hB : nrB z = ((decide (z < -8) || decide (8 < z)) && !decide (z = 64)) := rfl
  have e64 : (z == 64) = decide (z = 64) := by by_cases h : z = 64 <;> simp [h]
  rw [hB, ← e64]
  clear hB e64
  cases h1 : decide (z < -8)
  · cases h2 : decide (8 < z)
    · go_enter Tryz.func84, Tryz.ntmps84
      go_wp2
      go_ret
      exact ⟨rfl, rfl⟩
    · go_enter Tryz.func84, Tryz.ntmps84
      go_wp2
      go_ret
      exact ⟨rfl, rfl⟩
  · go_enter Tryz.func84, Tryz.ntmps84
    go_wp2
    go_ret
    exact ⟨rfl, rfl⟩
set_option maxHeartbeats 2000000 in
theorem indexRank_any (ao : Option Addr) (n cap : Nat) (zs : List Int) (w : World) (h : Rd w ao n zs) :
    Calls Tryz.prog 113 #[.slice ao n cap, .func (.func 84) #[] #[]] w fun e w' => ∃ i : Int, e = .returned (.int .i64 i) ∧ decide (0 ≤ i) = (!pall (fun i => !nrB (nth zs i)) n) ∧ w' = w := by
  have hrm := h.room
  obtain ⟨f, hff⟩ : ∃ f : Nat → Bool, f = fun i => !nrB (nth zs i) := ⟨_, rfl⟩
  have hfi : Hid (∀ i, f i = !nrB (nth zs i)) := fun i => by rw [hff]
  rw [← hff]
  clear hff
  go_enter Tryz.func113, Tryz.ntmps113
  go_wp2
  go_loopw [8] (fun i V => ∃ k : Nat, k ≤ n ∧ i = .int .i64 (k : Nat) ∧ V = w ∧ ∀ j, j < k → f j = true) (fun i _ => n - (intOf i).toNat)
  case atStart => exact ⟨0, Nat.zero_le _, rfl, rfl, fun j hj => by omega⟩
  case round =>
    obtain ⟨k, hk, rfl, rfl, hz⟩ := hrel
    have HZ : Hid (∀ j, j < k → f j = true) := hz
    clear hz
    by_cases hlt : k < n
    · have t1 : decide ((k : Int) < (n : Int)) = true := by simp; omega
      have bk : (k : Int) < (n : Int) := by omega
      obtain ⟨b, off, rfl, hb, hc⟩ := h.cells (by omega)
      have c1 := hc k hlt
      have hcal := isNoRank_any (nth zs k) wr
      have hfk := hfi.out k
      generalize nth zs k = z at *
      clear hc
      cases hB : nrB z
      · rw [hB] at hcal hfk
        have HB2 : Hid (f k = true) := hfk
        clear hB hfk
        go_wp2_with (go_at_call 84; (with_reducible refine hcal.mono ?_); rintro e w1 ⟨rfl, hw⟩; rw [hw]; clear hw w1)
        go_roundw
        case rel => exact ⟨k + 1, by omega, by go_num, (by first | trivial | rfl), fun j hj => by
          rcases Nat.lt_succ_iff_lt_or_eq.1 hj with h | h
          · exact HZ.out j h
          · rw [h]; exact HB2.out⟩
        case measure => simp [intOf]; omega
      · rw [hB] at hcal hfk
        have HNO : Hid (pall f n = false) := pall_no hlt hfk
        clear hB hfk
        go_wp2_with (go_at_call 84; (with_reducible refine hcal.mono ?_); rintro e w1 ⟨rfl, hw⟩; rw [hw]; clear hw w1)
        go_ret
        exact ⟨_, rfl, by rw [HNO.out]; simp, rfl⟩
    · obtain rfl : k = n := by omega
      have t1 : decide ((k : Int) < (k : Int)) = false := by simp
      have HY : Hid (pall f k = true) := (pall_iff f k).2 HZ.out
      go_wp2
      go_ret
      exact ⟨-1, rfl, by rw [HY.out]; rfl, rfl⟩
set_option maxHeartbeats 1000000 in
theorem containsRank_any (ao : Option Addr) (n cap : Nat) (zs : List Int) (w : World) (h : Rd w ao n zs) :
    Calls Tryz.prog 83 #[.slice ao n cap, .func (.func 84) #[] #[]] w fun e w' => e = .returned (.bool (!pall (fun i => !nrB (nth zs i)) n)) ∧ w' = w := by
  have hi := indexRank_any ao n cap zs w h
  generalize pall (fun i => !nrB (nth zs i)) n = B at *
  go_enter Tryz.func83, Tryz.ntmps83
  go_wp2_with (go_at_call 113; (with_reducible refine hi.mono ?_); rintro e w1 ⟨i, rfl, hI, hw⟩; rw [hw]; clear hw w1; have HI : Hid (decide (0 ≤ i) = !B) := hI; clear hI)
  go_ret
  exact ⟨ret_bool HI.out, rfl⟩
set_option maxHeartbeats 4000000 in
theorem arrayFits_any (k n : Int) (t : ByteArray) (so ao ko : Option Addr) (sn sc an ac kn kc : Nat) (s a : List Int) (w : World) (hs : Rd w so sn s) (ha : Rd w ao an a) :
    Calls Tryz.prog 58 #[.agg #[.int .i64 k, .string t, .int .i64 n, .slice so sn sc, .slice ao an ac, .slice ko kn kc]] w fun e w' => e = .returned (.bool (arrB k s a)) ∧ Below w.heap.size w w' := by
  have k0 := box_below w (.cells #[.int .i64 k, .string t, .int .i64 n, .slice so sn sc, .slice ao an ac, .slice ko kn kc] 31)
  obtain ⟨b0, b1, b2, b3, b4, b5⟩ := box6 (allocNew w (.cells #[.int .i64 k, .string t, .int .i64 n, .slice so sn sc, .slice ao an ac, .slice ko kn kc] 31))
  have hs0 := hs.below k0 (Nat.le_refl _)
  have ha0 := ha.below k0 (Nat.le_refl _)
  have box := allocNew w (.cells #[.int .i64 k, .string t, .int .i64 n, .slice so sn sc, .slice ao an ac, .slice ko kn kc] 31)
  by_cases h1 : k = 1
  · have e1 : (k == 1) = true := by simp [h1]
    have hA : arrB k s a = (scB s a || lsB 2 64 s a) := by unfold arrB; rw [if_pos h1]
    rw [hA]
    have hc := isScalar_any so ao sn sc an ac s a _ hs0 ha0
    have hl := fun V (hV : Below (w.alloc (.cells #[.int .i64 k, .string t, .int .i64 n, .slice so sn sc, .slice ao an ac, .slice ko kn kc] 31)).heap.size (w.alloc (.cells #[.int .i64 k, .string t, .int .i64 n, .slice so sn sc, .slice ao an ac, .slice ko kn kc] 31)) V) => isList_any 2 64 so ao sn sc an ac s a V (hs0.below hV (Nat.le_refl _)) (ha0.below hV (Nat.le_refl _))
    rw [show ((2 : Nat) : Int) = 2 from rfl, show ((64 : Nat) : Int) = 64 from rfl] at hl
    clear hA h1 hs ha
    cases hB : scB s a
    · rw [hB] at hc
      rw [Bool.false_or]
      generalize lsB 2 64 s a = B at *
      clear hB hs0 ha0
      go_enter Tryz.func58, Tryz.ntmps58
      go_wp2_with (first
        | (go_at_call 81; (with_reducible refine hc.mono ?_); rintro e w6 ⟨rfl, b6⟩; obtain ⟨q0, q1, q2, q3, q4, q5⟩ := box6 ((b6.block w.heap.size (by simp)).trans box))
        | (go_at_call 82; (with_reducible refine (hl _ b6).mono ?_); rintro e w7 ⟨rfl, b7⟩))
      go_ret
      exact ⟨rfl, k0.trans ((b6.trans (b7.mono b6.size)).mono k0.size)⟩
    · rw [hB] at hc
      rw [Bool.true_or]
      clear hB hs0 ha0
      go_enter Tryz.func58, Tryz.ntmps58
      go_wp2_with (go_at_call 81; (with_reducible refine hc.mono ?_); rintro e w6 ⟨rfl, b6⟩)
      go_ret
      exact ⟨rfl, k0.trans (b6.mono k0.size)⟩
  have e1 : (k == 1) = false := by simp [h1]
  by_cases h2 : k = 42
  · have e2 : (k == 42) = true := by simp [h2]
    have hA : arrB k s a = (lsB 1 3 s a && pall (fun i => !nrB (nth a i)) an) := by unfold arrB; rw [if_neg h1, if_pos h2, ha.len]
    rw [hA]
    have hl := isList_any 1 3 so ao sn sc an ac s a _ hs0 ha0
    have hc := fun V (hV : Below (w.alloc (.cells #[.int .i64 k, .string t, .int .i64 n, .slice so sn sc, .slice ao an ac, .slice ko kn kc] 31)).heap.size (w.alloc (.cells #[.int .i64 k, .string t, .int .i64 n, .slice so sn sc, .slice ao an ac, .slice ko kn kc] 31)) V) => containsRank_any ao an ac a V (ha0.below hV (Nat.le_refl _))
    rw [show ((1 : Nat) : Int) = 1 from rfl, show ((3 : Nat) : Int) = 3 from rfl] at hl
    clear hA h1 h2 hs ha
    cases hB : lsB 1 3 s a
    · rw [hB] at hl
      rw [Bool.false_and]
      clear hB hs0 ha0
      go_enter Tryz.func58, Tryz.ntmps58
      go_wp2_with (go_at_call 82; (with_reducible refine hl.mono ?_); rintro e w6 ⟨rfl, b6⟩)
      go_ret
      exact ⟨rfl, k0.trans (b6.mono k0.size)⟩
    · rw [hB] at hl
      rw [Bool.true_and]
      generalize pall (fun i => !nrB (nth a i)) an = B at *
      clear hB hs0 ha0
      go_enter Tryz.func58, Tryz.ntmps58
      go_wp2_with (first
        | (go_at_call 82; (with_reducible refine hl.mono ?_); rintro e w6 ⟨rfl, b6⟩; obtain ⟨q0, q1, q2, q3, q4, q5⟩ := box6 ((b6.block w.heap.size (by simp)).trans box))
        | (go_at_call 83; (with_reducible refine (hc _ b6).mono ?_); rintro e w7 ⟨rfl, hw⟩; rw [hw]; clear hw w7))
      go_ret
      exact ⟨ret_bool (by simp), k0.trans (b6.mono k0.size)⟩
  have e2 : (k == 42) = false := by simp [h2]
  have hA : arrB k s a = (decide (sn = 0) && decide (an = 0)) := by unfold arrB; rw [if_neg h1, if_neg h2, hs.len, ha.len]
  rw [hA]
  have d1 : decide (sn = 0) = ((sn : Int) == 0) := by by_cases h : sn = 0 <;> simp [h]
  have d2 : decide (an = 0) = ((an : Int) == 0) := by by_cases h : an = 0 <;> simp [h]
  rw [d1, d2]
  clear hA h1 h2 hs ha d1 d2 hs0 ha0
  cases h3 : ((sn : Int) == 0)
  · go_enter Tryz.func58, Tryz.ntmps58
    go_wp2
    go_ret
    exact ⟨rfl, k0⟩
  · cases h4 : ((an : Int) == 0)
    · go_enter Tryz.func58, Tryz.ntmps58
      go_wp2
      go_ret
      exact ⟨rfl, k0⟩
    · go_enter Tryz.func58, Tryz.ntmps58
      go_wp2
      go_ret
      exact ⟨rfl, k0⟩
end Go.Proofs.YtiahilelcppfgaaGreat
