
/- Contract of between. -/

import Derived.Test.YtppcfpiihkaopaaGreatDoorVD

namespace Go.Proofs.YtppcfpiihkaopaaGreatDoor

open Go.RowKit

set_option linter.unusedVariables false

/-- How many zeros stand at the end. -/
def trz (D : List Int) : Nat := (D.reverse.takeWhile (· == 0)).length
def btw (D : List Int) : List UInt8 := if trz D = 0 then [32] else List.replicate (trz D) 10
theorem rev_at {D : List Int} {k : Nat} (h : k < D.length) : D.reverse[k]'(by simpa using h) = nth D (D.length - 1 - k) := by
  rw [List.getElem_reverse]
  unfold nth
  rw [List.getD_eq_getElem?_getD, List.getElem?_eq_getElem (by omega)]; rfl
theorem while_len {l : List Int} : ∀ k, k ≤ (l.takeWhile (· == 0)).length → ∀ j (hj : j < l.length), j < k → l[j] = 0 := by
  induction l with
  | nil => intro k _ j hj; simp at hj
  | cons c l ih =>
    intro k hk j hj hjk
    rw [List.takeWhile_cons] at hk
    split at hk
    · rename_i hc
      cases j with
      | zero => simpa using hc
      | succ j => exact ih (k - 1) (by simp at hk; omega) j (by simpa using hj) (by omega)
    · simp at hk; omega
theorem while_stop {l : List Int} (h : (l.takeWhile (· == 0)).length < l.length) : l[(l.takeWhile (· == 0)).length] ≠ 0 := by
  induction l with
  | nil => simp at h
  | cons c l ih =>
    by_cases hc : (c == 0) = true
    · have e : (c :: l).takeWhile (· == 0) = c :: l.takeWhile (· == 0) := by rw [List.takeWhile_cons, if_pos hc]
      have h' : (l.takeWhile (· == 0)).length < l.length := by rw [e] at h; simpa using h
      have := ih h'
      simp only [e, List.length_cons, List.getElem_cons_succ]
      exact this
    · have e : (c :: l).takeWhile (· == 0) = [] := by rw [List.takeWhile_cons, if_neg hc]
      simp only [e, List.length_nil, List.getElem_cons_zero]
      simpa using hc
theorem trz_zero {D : List Int} {k : Nat} (h : k < trz D) (hl : trz D ≤ D.length) : nth D (D.length - 1 - k) = 0 := by
  rw [← rev_at (by omega)]
  exact while_len (trz D) (Nat.le_refl _) k (by simp; omega) h
theorem trz_stop {D : List Int} (h : trz D < D.length) : nth D (D.length - 1 - trz D) ≠ 0 := by
  rw [← rev_at h]
  have h' : (D.reverse.takeWhile (· == 0)).length < D.reverse.length := by rw [List.length_reverse]; exact h
  exact while_stop h'
theorem rep_is (b : UInt8) : ∀ n, Lib.repeatL [b] n = List.replicate n b
  | 0 => rfl
  | n + 1 => by
    show _ = b :: List.replicate n b
    rw [← rep_is b n]; rfl
set_option maxHeartbeats 2000000 in
theorem between_any (ao : Option Addr) (n cap : Nat) (D : List Int) (w : World) (h : Rd w ao n D) (hn : n ≤ 8) (ht : trz D < n) :
    Calls Tryz.prog 43 #[.slice ao n cap] w fun e w' => e = .returned (.string ⟨(btw D).toArray⟩) ∧ Below w.heap.size w w' := by
  have HL : Hid (D.length = n) := h.len
  have hroom := h.room
  go_enter Tryz.func43, Tryz.ntmps43
  go_wp2
  go_loopw [3] (fun i wr => ∃ k : Nat, k ≤ trz D ∧ i = .int .i64 (k : Nat) ∧ wr = w) (fun i _ => n - (intOf i).toNat)
  case atStart => exact ⟨0, Nat.zero_le _, rfl, rfl⟩
  case round =>
    obtain ⟨k, hk, rfl, hw⟩ := hrel
    subst hw
    obtain ⟨b, off, rfl, hbb, hc⟩ := h.cells (by omega)
    have c1 := hc (n - 1 - k) (by omega)
    have e1 : (n : Int) - 1 - (k : Int) = ((n - 1 - k : Nat) : Int) := by omega
    have b1 : (n - 1 - k : Nat) < n := by omega
    have b2 : ((n - 1 - k : Nat) : Int) < (n : Int) := by omega
    by_cases hlt : k < trz D
    · have hz : nth D (n - 1 - k) = 0 := by have := trz_zero hlt (by have := HL.out; omega); rwa [HL.out] at this
      rw [hz] at c1
      obtain ⟨q, hq⟩ : ∃ q, n - 1 - k = q := ⟨_, rfl⟩
      rw [hq] at c1 e1 b1 b2
      clear hc hz hq
      go_wp2
      go_roundw
      case rel => exact ⟨k + 1, by omega, by go_num, by simp⟩
      case measure => simp [intOf]; omega
    · obtain rfl : k = trz D := by omega
      have hz : nth D (n - 1 - trz D) ≠ 0 := by have := trz_stop (D := D) (by have := HL.out; omega); rwa [HL.out] at this
      have t1 : (nth D (n - 1 - trz D) == 0) = false := by simpa using hz
      have HB : Hid (btw D = if trz D = 0 then [32] else List.replicate (trz D) 10) := rfl
      obtain ⟨q, hq⟩ : ∃ q, n - 1 - trz D = q := ⟨_, rfl⟩
      rw [hq] at c1 e1 b1 b2 t1
      generalize nth D q = dv at c1 t1
      clear hc hz hq
      generalize trz D = z at *
      by_cases h0 : z = 0
      · subst h0
        have HB' : Hid (btw D = [32]) := by have := HB.out; rw [if_pos rfl] at this; exact this
        have e0 : (n : Int) - 1 = (q : Int) := by omega
        clear HB e1
        go_wp2
        go_ret
        exact ⟨ret_str (by rw [HB'.out]; rfl), Below.refl _ _⟩
      · have t2 : ((z : Int) == 0) = false := by simp; omega
        have t2' : (z == 0) = false := by simp [h0]
        have HB' : Hid (btw D = List.replicate z 10) := by have := HB.out; rw [if_neg h0] at this; exact this
        have cR := Tryz.strings_Repeat ⟨#[10]⟩ z wr (by omega) (by show 1 * z ≤ _; omega)
        rw [show Lib.repeatL (⟨#[10]⟩ : ByteArray).data.toList z = List.replicate z 10 from rep_is 10 z] at cR
        clear HB h0
        go_wp2_with (go_at_call 32; (with_reducible refine cR.mono ?_); rintro e w1 ⟨rfl, k1⟩)
        go_ret
        exact ⟨ret_str (by rw [HB'.out]; rfl), k1⟩
end Go.Proofs.YtppcfpiihkaopaaGreatDoor
