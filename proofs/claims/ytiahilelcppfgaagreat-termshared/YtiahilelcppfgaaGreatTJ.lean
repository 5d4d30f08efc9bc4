
/- Package term: names. -/

import Derived.Test.YtiahilelcppfgaaGreatTE

import Derived.Lib.Strings

namespace Go.Proofs.YtiahilelcppfgaaGreat

open Go.RowKit

set_option linter.unusedVariables false

def ltB (lo b : Int) : Bool := decide (lo ≤ b) && decide (b ≤ lo + 25)
def ofN (b : Int) : Bool := ltB 97 b || (ltB 65 b || (decide (48 ≤ b) && decide (b ≤ 57)))
theorem isSmall_any (b : Int) (w : World) : Calls Tryz.prog 79 #[.int .u8 b] w fun e w' => e = .returned (.bool (ltB 97 b)) ∧ w' = w := by
  have hA : ltB 97 b = (decide (97 ≤ b) && decide (b ≤ 122)) := rfl
  rw [hA]
  clear hA
  cases h1 : decide (97 ≤ b)
  · go_enter Tryz.func79, Tryz.ntmps79
    go_wp2
    go_ret
    exact ⟨rfl, rfl⟩
  · go_enter Tryz.func79, Tryz.ntmps79
    go_wp2
    go_ret
    exact ⟨rfl, rfl⟩
theorem isCapital_any (b : Int) (w : World) : Calls Tryz.prog 80 #[.int .u8 b] w fun e w' => e = .returned (.bool (ltB 65 b)) ∧ w' = w := by
  have hA : ltB 65 b = (decide (65 ≤ b) && decide (b ≤ 90)) := rfl
  rw [hA]
  clear hA
  cases h1 : decide (65 ≤ b)
  · go_enter Tryz.func80, Tryz.ntmps80
    go_wp2
    go_ret
    exact ⟨rfl, rfl⟩
  · go_enter Tryz.func80, Tryz.ntmps80
    go_wp2
    go_ret
    exact ⟨rfl, rfl⟩
theorem isOfName_any (b : Int) (w : World) : Calls Tryz.prog 112 #[.int .u8 b] w fun e w' => e = .returned (.bool (ofN b)) ∧ w' = w := by
  have hA : ofN b = (ltB 97 b || (ltB 65 b || (decide (48 ≤ b) && decide (b ≤ 57)))) := rfl
  have h1 := fun W => isSmall_any b W
  have h2 := fun W => isCapital_any b W
  rw [hA]
  clear hA
  cases e1 : ltB 97 b
  · rw [e1] at h1
    cases e2 : ltB 65 b
    · rw [e2] at h2
      clear e1 e2
      cases h3 : decide (48 ≤ b)
      · go_enter Tryz.func112, Tryz.ntmps112
        go_wp2_with (first
          | (go_at_call 79; (with_reducible refine (h1 _).mono ?_); rintro e w1 ⟨rfl, rfl⟩)
          | (go_at_call 80; (with_reducible refine (h2 _).mono ?_); rintro e w1 ⟨rfl, rfl⟩))
        go_ret
        exact ⟨rfl, rfl⟩
      · go_enter Tryz.func112, Tryz.ntmps112
        go_wp2_with (first
          | (go_at_call 79; (with_reducible refine (h1 _).mono ?_); rintro e w1 ⟨rfl, rfl⟩)
          | (go_at_call 80; (with_reducible refine (h2 _).mono ?_); rintro e w1 ⟨rfl, rfl⟩))
        go_ret
        exact ⟨rfl, rfl⟩
    · rw [e2] at h2
      clear e1 e2
      go_enter Tryz.func112, Tryz.ntmps112
      go_wp2_with (first
        | (go_at_call 79; (with_reducible refine (h1 _).mono ?_); rintro e w1 ⟨rfl, rfl⟩)
        | (go_at_call 80; (with_reducible refine (h2 _).mono ?_); rintro e w1 ⟨rfl, rfl⟩))
      go_ret
      exact ⟨rfl, rfl⟩
  · rw [e1] at h1
    clear e1
    go_enter Tryz.func112, Tryz.ntmps112
    go_wp2_with (go_at_call 79; (with_reducible refine (h1 _).mono ?_); rintro e w1 ⟨rfl, rfl⟩)
    go_ret
    exact ⟨rfl, rfl⟩
/-- The byte at a place. -/
def bt (t : ByteArray) (i : Nat) : Int := if h : i < t.size then ((t[i]'h).toNat : Int) else 0
theorem bt_lo (t : ByteArray) (i : Nat) : 0 ≤ bt t i ∧ bt t i ≤ 255 := by
  unfold bt
  split
  · have := (t[i]'(by assumption)).toNat_lt; omega
  · omega
theorem idx_str (t : ByteArray) (k : Nat) (h : k < t.size) (W : World) : (Instr.index 9 (.string t) (.int .i64 (k : Nat))).run Tryz.prog W = .ok (.int .u8 (bt t k)) W := by
  have e := Tryz.underlying9
  simp [go_sem, e, bt, h]
/-- Is a text a name that begins with one of the 26 letters from lo on? -/
def nmB (lo : Int) (t : ByteArray) : Bool := !(t.toList == ([] : List UInt8)) && (decide (t.size ≤ 32) && (ltB lo (bt t 0) && pall (fun i => ofN (bt t i)) t.size))
theorem size_pos {t : ByteArray} (h : (t.toList == ([] : List UInt8)) = false) : 0 < t.size := by
  rcases Nat.eq_zero_or_pos t.size with e | e
  · have : t = ⟨#[]⟩ := by
      apply ByteArray.ext
      exact Array.eq_empty_of_size_eq_zero e
    subst this
    simp at h
  · exact e
set_option maxHeartbeats 2000000 in
theorem isName97_any (t : ByteArray) (w : World) (ht : t.size ≤ 140737488355328) : Calls Tryz.prog 78 #[.string t, .func (.func 79) #[] #[]] w fun e w' => e = .returned (.bool (nmB 97 t)) ∧ w' = w := by
  have hB : Hid (nmB 97 t = (!(t.toList == ([] : List UInt8)) && (decide (t.size ≤ 32) && (ltB 97 (bt t 0) && pall (fun i => ofN (bt t i)) t.size)))) := rfl
  cases h1 : t.toList == ([] : List UInt8)
  · have hp := size_pos h1
    by_cases h2 : t.size ≤ 32
    · have d2 : decide ((32 : Int) < (t.size : Int)) = false := by simp; omega
      have D2 : Hid (decide (t.size ≤ 32) = true) := by show _ = _; simp; omega
      have hx0 : ∀ W, (Instr.index 9 (.string t) (.int .i64 0)).run Tryz.prog W = .ok (.int .u8 (bt t 0)) W := fun W => idx_str t 0 hp W
      have hc := fun W => isSmall_any (bt t 0) W
      generalize bt t 0 = b0 at *
      cases hb : ltB 97 b0
      · rw [hb] at hc
        have HB0 : Hid (ltB 97 b0 = false) := hb
        have H1 : Hid ((t.toList == ([] : List UInt8)) = false) := h1
        clear hb
        go_enter Tryz.func78, Tryz.ntmps78
        go_wp2_with (go_at_call 79; (with_reducible refine (hc _).mono ?_); rintro e w1 ⟨rfl, rfl⟩)
        go_ret
        exact ⟨ret_bool (by rw [hB.out, HB0.out, Bool.false_and, Bool.and_false, Bool.and_false]), rfl⟩
      · rw [hb] at hc
        have HB0 : Hid (ltB 97 b0 = true) := hb
        have H1 : Hid ((t.toList == ([] : List UInt8)) = false) := h1
        have hix : ∀ (k : Nat) (W : World), k < t.size → (Instr.index 9 (.string t) (.int .i64 (k : Nat))).run Tryz.prog W = .ok (.int .u8 (bt t k)) W := fun k W h => idx_str t k h W
        obtain ⟨f, hf⟩ : ∃ f : Nat → Bool, f = fun i => ofN (bt t i) := ⟨_, rfl⟩
        have hfi : Hid (∀ i, f i = ofN (bt t i)) := fun i => by rw [hf]
        have HP : Hid (pall (fun i => ofN (bt t i)) t.size = pall f t.size) := by rw [hf]; exact rfl
        clear hb hf
        generalize hn : t.size = n at *
        go_enter Tryz.func78, Tryz.ntmps78
        go_wp2_with (go_at_call 79; (with_reducible refine (hc _).mono ?_); rintro e w1 ⟨rfl, hw⟩; rw [hw]; clear hw w1)
        clear hc hx0
        go_loopw [22] (fun i V => ∃ k : Nat, k ≤ n ∧ i = .int .i64 (k : Nat) ∧ V = w ∧ ∀ j, j < k → f j = true) (fun i _ => n - (intOf i).toNat)
        case atStart => exact ⟨0, Nat.zero_le _, rfl, rfl, fun j hj => by omega⟩
        case round =>
          obtain ⟨k, hk, rfl, rfl, hz⟩ := hrel
          have HZ : Hid (∀ j, j < k → f j = true) := hz
          clear hz
          by_cases hlt : k < n
          · have t1 : decide ((k : Int) < (n : Int)) = true := by simp; omega
            have bk : (k : Int) < (n : Int) := by omega
            have hx := fun W => hix k W hlt
            have hc := fun W => isOfName_any (bt t k) W
            rw [← hfi.out k] at hc
            generalize bt t k = b at *
            clear hix
            cases hB2 : f k
            · rw [hB2] at hc
              have HNO : Hid (pall f n = false) := pall_no hlt hB2
              clear hB2
              go_wp2_with (go_at_call 112; (with_reducible refine (hc _).mono ?_); rintro e w1 ⟨rfl, rfl⟩)
              go_ret
              exact ⟨ret_bool (by rw [hB.out, HP.out, HNO.out, Bool.and_false, Bool.and_false, Bool.and_false]), rfl⟩
            · rw [hB2] at hc
              have HB2 : Hid (f k = true) := hB2
              clear hB2
              go_wp2_with (go_at_call 112; (with_reducible refine (hc _).mono ?_); rintro e w1 ⟨rfl, rfl⟩)
              go_roundw
              case rel => exact ⟨k + 1, by omega, by go_num, (by first | trivial | rfl), fun j hj => by
                rcases Nat.lt_succ_iff_lt_or_eq.1 hj with h | h
                · exact HZ.out j h
                · rw [h]; exact HB2.out⟩
              case measure => simp [intOf]; omega
          · obtain rfl : k = n := by omega
            have t1 : decide ((k : Int) < (k : Int)) = false := by simp
            have HY : Hid (pall f k = true) := (pall_iff f k).2 HZ.out
            go_wp2
            go_ret
            exact ⟨ret_bool (by rw [hB.out, HP.out, HY.out, H1.out, HB0.out, D2.out]; rfl), rfl⟩
    · have d2 : decide ((32 : Int) < (t.size : Int)) = true := by simp; omega
      have D2 : Hid (decide (t.size ≤ 32) = false) := by show _ = _; simp; omega
      clear h2
      go_enter Tryz.func78, Tryz.ntmps78
      go_wp2
      go_ret
      exact ⟨ret_bool (by rw [hB.out, D2.out, Bool.false_and, Bool.and_false]), rfl⟩
  · have H1 : Hid ((t.toList == ([] : List UInt8)) = true) := h1
    go_enter Tryz.func78, Tryz.ntmps78
    go_wp2
    go_ret
    exact ⟨ret_bool (by rw [hB.out, H1.out]; rfl), rfl⟩
set_option maxHeartbeats 2000000 in
theorem isName65_any (t : ByteArray) (w : World) (ht : t.size ≤ 140737488355328) : Calls Tryz.prog 78 #[.string t, .func (.func 80) #[] #[]] w fun e w' => e = .returned (.bool (nmB 65 t)) ∧ w' = w := by
  have hB : Hid (nmB 65 t = (!(t.toList == ([] : List UInt8)) && (decide (t.size ≤ 32) && (ltB 65 (bt t 0) && pall (fun i => ofN (bt t i)) t.size)))) := rfl
  cases h1 : t.toList == ([] : List UInt8)
  · have hp := size_pos h1
    by_cases h2 : t.size ≤ 32
    · have d2 : decide ((32 : Int) < (t.size : Int)) = false := by simp; omega
      have D2 : Hid (decide (t.size ≤ 32) = true) := by show _ = _; simp; omega
      have hx0 : ∀ W, (Instr.index 9 (.string t) (.int .i64 0)).run Tryz.prog W = .ok (.int .u8 (bt t 0)) W := fun W => idx_str t 0 hp W
      have hc := fun W => isCapital_any (bt t 0) W
      generalize bt t 0 = b0 at *
      cases hb : ltB 65 b0
      · rw [hb] at hc
        have HB0 : Hid (ltB 65 b0 = false) := hb
        have H1 : Hid ((t.toList == ([] : List UInt8)) = false) := h1
        clear hb
        go_enter Tryz.func78, Tryz.ntmps78
        go_wp2_with (go_at_call 80; (with_reducible refine (hc _).mono ?_); rintro e w1 ⟨rfl, rfl⟩)
        go_ret
        exact ⟨ret_bool (by rw [hB.out, HB0.out, Bool.false_and, Bool.and_false, Bool.and_false]), rfl⟩
      · rw [hb] at hc
        have HB0 : Hid (ltB 65 b0 = true) := hb
        have H1 : Hid ((t.toList == ([] : List UInt8)) = false) := h1
        have hix : ∀ (k : Nat) (W : World), k < t.size → (Instr.index 9 (.string t) (.int .i64 (k : Nat))).run Tryz.prog W = .ok (.int .u8 (bt t k)) W := fun k W h => idx_str t k h W
        obtain ⟨f, hf⟩ : ∃ f : Nat → Bool, f = fun i => ofN (bt t i) := ⟨_, rfl⟩
        have hfi : Hid (∀ i, f i = ofN (bt t i)) := fun i => by rw [hf]
        have HP : Hid (pall (fun i => ofN (bt t i)) t.size = pall f t.size) := by rw [hf]; exact rfl
        clear hb hf
        generalize hn : t.size = n at *
        go_enter Tryz.func78, Tryz.ntmps78
        go_wp2_with (go_at_call 80; (with_reducible refine (hc _).mono ?_); rintro e w1 ⟨rfl, hw⟩; rw [hw]; clear hw w1)
        clear hc hx0
        go_loopw [22] (fun i V => ∃ k : Nat, k ≤ n ∧ i = .int .i64 (k : Nat) ∧ V = w ∧ ∀ j, j < k → f j = true) (fun i _ => n - (intOf i).toNat)
        case atStart => exact ⟨0, Nat.zero_le _, rfl, rfl, fun j hj => by omega⟩
        case round =>
          obtain ⟨k, hk, rfl, rfl, hz⟩ := hrel
          have HZ : Hid (∀ j, j < k → f j = true) := hz
          clear hz
          by_cases hlt : k < n
          · have t1 : decide ((k : Int) < (n : Int)) = true := by simp; omega
            have bk : (k : Int) < (n : Int) := by omega
            have hx := fun W => hix k W hlt
            have hc := fun W => isOfName_any (bt t k) W
            rw [← hfi.out k] at hc
            generalize bt t k = b at *
            clear hix
            cases hB2 : f k
            · rw [hB2] at hc
              have HNO : Hid (pall f n = false) := pall_no hlt hB2
              clear hB2
              go_wp2_with (go_at_call 112; (with_reducible refine (hc _).mono ?_); rintro e w1 ⟨rfl, rfl⟩)
              go_ret
              exact ⟨ret_bool (by rw [hB.out, HP.out, HNO.out, Bool.and_false, Bool.and_false, Bool.and_false]), rfl⟩
            · rw [hB2] at hc
              have HB2 : Hid (f k = true) := hB2
              clear hB2
              go_wp2_with (go_at_call 112; (with_reducible refine (hc _).mono ?_); rintro e w1 ⟨rfl, rfl⟩)
              go_roundw
              case rel => exact ⟨k + 1, by omega, by go_num, (by first | trivial | rfl), fun j hj => by
                rcases Nat.lt_succ_iff_lt_or_eq.1 hj with h | h
                · exact HZ.out j h
                · rw [h]; exact HB2.out⟩
              case measure => simp [intOf]; omega
          · obtain rfl : k = n := by omega
            have t1 : decide ((k : Int) < (k : Int)) = false := by simp
            have HY : Hid (pall f k = true) := (pall_iff f k).2 HZ.out
            go_wp2
            go_ret
            exact ⟨ret_bool (by rw [hB.out, HP.out, HY.out, H1.out, HB0.out, D2.out]; rfl), rfl⟩
    · have d2 : decide ((32 : Int) < (t.size : Int)) = true := by simp; omega
      have D2 : Hid (decide (t.size ≤ 32) = false) := by show _ = _; simp; omega
      clear h2
      go_enter Tryz.func78, Tryz.ntmps78
      go_wp2
      go_ret
      exact ⟨ret_bool (by rw [hB.out, D2.out, Bool.false_and, Bool.and_false]), rfl⟩
  · have H1 : Hid ((t.toList == ([] : List UInt8)) = true) := h1
    go_enter Tryz.func78, Tryz.ntmps78
    go_wp2
    go_ret
    exact ⟨ret_bool (by rw [hB.out, H1.out]; rfl), rfl⟩
end Go.Proofs.YtiahilelcppfgaaGreat
