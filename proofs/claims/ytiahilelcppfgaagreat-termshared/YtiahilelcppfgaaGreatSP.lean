
/- The document's names and primitives. -/

import Derived.Test.YtiahilelcppfgaaGreatSN

import Derived.Test.YtiahilelcppfgaaGreatTM

namespace Go.Proofs.YtiahilelcppfgaaGreat

open Go.RowKit Go.Maps

set_option linter.unusedVariables false

def splL : List Value := [.string ⟨#[43]⟩, .string ⟨#[45]⟩, .string ⟨#[42]⟩, .string ⟨#[37]⟩, .string ⟨#[124]⟩, .string ⟨#[60, 46]⟩, .string ⟨#[62, 46]⟩, .string ⟨#[60]⟩, .string ⟨#[62]⟩, .string ⟨#[61]⟩, .string ⟨#[126, 58]⟩, .string ⟨#[60, 58]⟩, .string ⟨#[62, 58]⟩, .string ⟨#[43, 46]⟩, .string ⟨#[42, 46]⟩, .string ⟨#[43, 58]⟩, .string ⟨#[42, 58]⟩, .string ⟨#[45, 46]⟩, .string ⟨#[45, 58]⟩, .string ⟨#[94]⟩, .string ⟨#[33]⟩, .string ⟨#[35]⟩, .string ⟨#[36]⟩, .string ⟨#[44]⟩, .string ⟨#[44, 46]⟩, .string ⟨#[44, 58]⟩, .string ⟨#[123]⟩, .string ⟨#[123, 46]⟩, .string ⟨#[125, 46]⟩, .string ⟨#[123, 58]⟩, .string ⟨#[125, 58]⟩, .string ⟨#[124, 46]⟩, .string ⟨#[124, 58]⟩, .string ⟨#[105, 46]⟩, .string ⟨#[101, 46]⟩, .string ⟨#[126, 46]⟩, .string ⟨#[47, 58]⟩, .string ⟨#[92, 58]⟩, .string ⟨#[35, 46]⟩, .string ⟨#[35, 58]⟩, .string ⟨#[91]⟩, .string ⟨#[93]⟩, .string ⟨#[73, 46]⟩]
theorem splL_at (l : List Value) (hl : l = splL) : ∀ k : Nat, k < 43 → l[k]? = some (.string (pS k)) := by
  subst hl
  intro k hk
  match k, hk with
  | 0, _ => rfl
  | 1, _ => rfl
  | 2, _ => rfl
  | 3, _ => rfl
  | 4, _ => rfl
  | 5, _ => rfl
  | 6, _ => rfl
  | 7, _ => rfl
  | 8, _ => rfl
  | 9, _ => rfl
  | 10, _ => rfl
  | 11, _ => rfl
  | 12, _ => rfl
  | 13, _ => rfl
  | 14, _ => rfl
  | 15, _ => rfl
  | 16, _ => rfl
  | 17, _ => rfl
  | 18, _ => rfl
  | 19, _ => rfl
  | 20, _ => rfl
  | 21, _ => rfl
  | 22, _ => rfl
  | 23, _ => rfl
  | 24, _ => rfl
  | 25, _ => rfl
  | 26, _ => rfl
  | 27, _ => rfl
  | 28, _ => rfl
  | 29, _ => rfl
  | 30, _ => rfl
  | 31, _ => rfl
  | 32, _ => rfl
  | 33, _ => rfl
  | 34, _ => rfl
  | 35, _ => rfl
  | 36, _ => rfl
  | 37, _ => rfl
  | 38, _ => rfl
  | 39, _ => rfl
  | 40, _ => rfl
  | 41, _ => rfl
  | 42, _ => rfl
  | _ + 43, h => exact absurd h (by omega)
set_option maxRecDepth 100000 in
set_option maxHeartbeats 4000000 in
theorem spl_any (w : World) : Calls Tryz.prog 124 #[] w fun e w' => e = .returned (.slice (some ⟨w.heap.size, 0, none⟩) 43 43) ∧ w' = w.alloc (.cells splL.toArray 9) := by
  go_enter Tryz.func124, Tryz.ntmps124
  go_wp2
  go_ret
  exact ⟨rfl, rfl⟩

theorem spD_has (s : ByteArray) : ∀ k, (has (spD k) (.string s.data.toList) = true ↔ ∃ j, j < k ∧ pS j = s)
  | 0 => by
    constructor
    · intro h
      have : has (spD 0) (.string s.data.toList) = false := rfl
      rw [this] at h; cases h
    · rintro ⟨j, hj, _⟩; omega
  | k + 1 => by
    have ih := spD_has s k
    show has ((spD k).put (.string (pS k).data.toList) _) _ = true ↔ _
    by_cases e : pS k = s
    · rw [← e, has_put_same (spD_map k) (key_str _)]
      exact ⟨fun _ => ⟨k, Nat.lt_succ_self _, rfl⟩, fun _ => rfl⟩
    · have hne : (.string s.data.toList : Lit) ≠ .string (pS k).data.toList := fun h => e (by
        injection h with h
        exact (WideShapes.bytes_inj h).symm)
      rw [has_put_other hne, ih]
      constructor
      · rintro ⟨j, hj, h⟩; exact ⟨j, by omega, h⟩
      · rintro ⟨j, hj, h⟩
        refine ⟨j, ?_, h⟩
        by_cases ej : j = k
        · subst ej; exact absurd h e
        · omega
theorem isPr_iff (s : ByteArray) : isPr s = true ↔ ∃ j, j < 43 ∧ pS j = s := spD_has s 43
theorem bytes_beq {a b : ByteArray} : (a.toList == b.toList) = decide (a = b) := by
  by_cases h : a = b
  · subst h; simp
  · have : ¬ a.toList = b.toList := fun e => h (by
      rw [ByteArray.toList_eq, ByteArray.toList_eq] at e
      exact WideShapes.bytes_inj e)
    simp [h, this]
set_option linter.unusedSimpArgs false in
set_option maxHeartbeats 4000000 in
theorem rof_any (s : ByteArray) (w : World) : Calls Tryz.prog 109 #[.string s] w fun e w' => (∃ op : Int, e = .returned (.tuple #[.int .i64 op, .bool (isPr s)])) ∧ Below w.heap.size w w' := by
  have hs := fun W => spl_any W
  have HI : Hid (isPr s = true ↔ ∃ j, j < 43 ∧ pS j = s) := isPr_iff s
  have hcells := fun k (hk : k < 43) => (cell_of_row _ w.heap.size k _ 9 (0, 0) (allocNew w (.cells splL.toArray 9))).trans ((by simp : splL.toArray[k]? = splL[k]?).trans (splL_at splL rfl k hk))
  have HC : Hid (∀ k, k < 43 → (w.alloc (.cells splL.toArray 9)).cell? ⟨w.heap.size, k, none⟩ = some (.string (pS k))) := fun k hk => by
    exact hcells k hk
  have kb := box_below w (.cells splL.toArray 9)
  clear hcells
  generalize isPr s = R at *
  generalize splL = SL at *
  go_enter Tryz.func109, Tryz.ntmps109
  go_wp2_with (go_at_call 124; (with_reducible refine (hs _).mono ?_); rintro e w1 ⟨rfl, hw1⟩; rw [hw1]; clear hw1 w1)
  generalize w.alloc (.cells SL.toArray 9) = W1 at *
  obtain ⟨G, hG⟩ : ∃ G, G = w.heap.size := ⟨_, rfl⟩
  rw [← hG] at HC
  go_loopw [5] (fun i V => ∃ k : Nat, k ≤ 43 ∧ i = .int .i64 (k : Nat) ∧ V = W1 ∧ Hid (∀ j, j < k → pS j ≠ s)) (fun i _ => 43 - (intOf i).toNat)
  case atStart => exact ⟨0, by omega, rfl, rfl, fun j hj => absurd hj (Nat.not_lt_zero _)⟩
  case round =>
    obtain ⟨k, hk, rfl, rfl, HZ⟩ := hrel
    by_cases hlt : k < 43
    · have t1 : decide ((k : Int) < 43) = true := by simp; omega
      have bk : (k : Int) < 43 := by omega
      have hc := HC.out k hlt
      rw [hG] at hc
      obtain ⟨sp, hsp⟩ : ∃ sp, sp = pS k := ⟨_, rfl⟩
      have HSP : Hid (sp = pS k) := hsp
      rw [← hsp] at hc
      clear hsp hG
      cases hE : sp.toList == s.toList
      · have hE2 : ¬ sp.toList = s.toList := by simpa using hE
        have HN : Hid (pS k ≠ s) := fun e => by
          rw [bytes_beq, HSP.out, e] at hE; simp at hE
        go_wp2
        go_roundw
        case rel => exact ⟨k + 1, by omega, by go_num, (by first | trivial | rfl), fun j hj => by
          by_cases e : j = k
          · subst e; exact HN.out
          · exact HZ.out j (by omega)⟩
        case measure => simp [intOf]; omega
      · have hE2 : sp.toList = s.toList := by simpa using hE
        have HY : Hid (R = true) := HI.out.2 ⟨k, hlt, by
          rw [bytes_beq] at hE
          rw [← HSP.out]; simpa using hE⟩
        have ws : IntKind.i64.wrap ((k : Int) + 1) = (k : Int) + 1 := wrT (by omega) (by omega)
        go_wp2
        (try simp only [Exit.inBlock, Exit.then])
        refine bodyPost_ret (results_tmp2 rfl _ _ _) rfl ?_
        exact ⟨⟨(k : Int) + 1, by rw [HY.out]; rfl⟩, kb⟩
    · obtain rfl : k = 43 := by omega
      have t1 : decide (((43 : Nat) : Int) < 43) = false := by simp
      have HN : Hid (R = false) := by
        show _ = _
        cases hR : R
        · rfl
        · obtain ⟨j, hj, e⟩ := HI.out.1 hR
          exact absurd e (HZ.out j hj)
      go_wp2
      (try simp only [Exit.inBlock, Exit.then])
      refine bodyPost_ret (results_tmp2 rfl _ _ _) rfl ?_
      exact ⟨⟨0, by rw [HN.out]; rfl⟩, kb⟩
set_option linter.unusedSimpArgs false in
set_option maxHeartbeats 4000000 in
theorem rname_97 (t : ByteArray) (w : World) (ht : t.size ≤ 140737488355328) : Calls Tryz.prog 108 #[.string t, .int .u8 97] w fun e w' => e = .returned (.bool (nmB 97 t)) ∧ w' = w := by
  have hB : Hid (nmB 97 t = (!(t.toList == ([] : List UInt8)) && (decide (t.size ≤ 32) && ((decide (97 ≤ bt t 0) && decide (bt t 0 ≤ 122)) && pall (fun i => ofN (bt t i)) t.size)))) := rfl
  have hbl := bt_lo t
  by_cases h0 : t.size = 0
  · have e1 : decide ((t.size : Int) < 1) = true := by simp; omega
    have HE : Hid (nmB 97 t = false) := by
      have e : t = ⟨#[]⟩ := by
        apply ByteArray.ext
        exact Array.eq_empty_of_size_eq_zero h0
      subst e
      show _ = _
      rw [hB.out]; simp
    clear h0 hbl
    go_enter Tryz.func108, Tryz.ntmps108
    go_wp2
    go_ret
    exact ⟨ret_bool HE.out.symm, rfl⟩
  have e1 : decide ((t.size : Int) < 1) = false := by simp; omega
  have HN : Hid ((t.toList == ([] : List UInt8)) = false) := by
    show _ = _
    cases h : t.toList == ([] : List UInt8)
    · rfl
    · exfalso
      have := eq_of_beq h
      rw [ByteArray.toList_eq] at this
      have h3 : t.data = #[] := by apply Array.ext'; rw [this]
      exact h0 (by show t.data.size = 0; rw [h3]; rfl)
  by_cases h2 : 32 < t.size
  · have e2 : decide ((32 : Int) < (t.size : Int)) = true := by simp; omega
    have HE : Hid (nmB 97 t = false) := by
      show _ = _
      rw [hB.out, show decide (t.size ≤ 32) = false from by simp; omega, Bool.false_and, Bool.and_false]
    clear h0 h2 hbl
    go_enter Tryz.func108, Tryz.ntmps108
    go_wp2
    go_ret
    exact ⟨ret_bool HE.out.symm, rfl⟩
  have e2 : decide ((32 : Int) < (t.size : Int)) = false := by simp; omega
  have H2 : Hid (decide (t.size ≤ 32) = true) := by show _ = _; simp; omega
  have hx0 : ∀ W, (Instr.index 9 (.string t) (.int .i64 0)).run Tryz.prog W = .ok (.int .u8 (bt t 0)) W := fun W => idx_str t 0 (by omega) W
  have hix : Hid (∀ (k : Nat) (W : World), k < t.size → (Instr.index 9 (.string t) (.int .i64 (k : Nat))).run Tryz.prog W = .ok (.int .u8 (bt t k)) W) := fun k W h => idx_str t k h W
  have hb0 := hbl 0
  obtain ⟨f, hf⟩ : ∃ f : Nat → Bool, ∀ i, f i = ofN (bt t i) := ⟨_, fun _ => rfl⟩
  have HP : Hid (pall (fun i => ofN (bt t i)) t.size = pall f t.size) := by rw [show f = fun i => ofN (bt t i) from funext hf]; exact rfl
  have HF0 := hf 0
  have HF : Hid (∀ i, f i = ofN (bt t i)) := hf
  have HBL : Hid (∀ i, 0 ≤ bt t i ∧ bt t i ≤ 255) := hbl
  have HB2 : Hid (bt t 0 = bt t 0) := rfl
  clear hf hbl
  obtain ⟨b0, hb⟩ : ∃ b0, b0 = bt t 0 := ⟨_, rfl⟩
  rw [← hb] at hx0 hb0 HF0
  have hB : Hid (nmB 97 t = (!(t.toList == ([] : List UInt8)) && (decide (t.size ≤ 32) && ((decide (97 ≤ b0) && decide (b0 ≤ 122)) && pall f t.size)))) := by
    show _ = _
    rw [hB.out, HP.out, ← hb]
  clear hb HB2
  generalize hn : t.size = n at *
  by_cases h3 : b0 < 97
  · have e3 : decide (b0 < 97) = true := by simp; omega
    have HE : Hid (nmB 97 t = false) := by
      show _ = _
      rw [hB.out, show decide (97 ≤ b0) = false from by simp; omega, Bool.false_and, Bool.false_and, Bool.and_false, Bool.and_false]
    clear h0 h2 h3 HF0
    go_enter Tryz.func108, Tryz.ntmps108
    go_wp2
    go_ret
    exact ⟨ret_bool HE.out.symm, rfl⟩
  have e3 : decide (b0 < 97) = false := by simp; omega
  by_cases h4 : 122 < b0
  · have e4 : decide (122 < b0) = true := by simp; omega
    have HE : Hid (nmB 97 t = false) := by
      show _ = _
      rw [hB.out, show decide (b0 ≤ 122) = false from by simp; omega, Bool.and_false, Bool.false_and, Bool.and_false, Bool.and_false]
    clear h0 h2 h3 h4 HF0
    go_enter Tryz.func108, Tryz.ntmps108
    go_wp2
    go_ret
    exact ⟨ret_bool HE.out.symm, rfl⟩
  have e4 : decide (122 < b0) = false := by simp; omega
  have HB3 : Hid (nmB 97 t = pall f n) := by
    show _ = _
    rw [hB.out, HN.out, H2.out, show decide (97 ≤ b0) = true from by simp; omega, show decide (b0 ≤ 122) = true from by simp; omega]; simp
  have HZ0 : Hid (f 0 = true) := by
    show _ = _
    rw [HF0]
    have hA : ofN b0 = ((decide (97 ≤ b0) && decide (b0 ≤ 122)) || ((decide (65 ≤ b0) && decide (b0 ≤ 90)) || (decide (48 ≤ b0) && decide (b0 ≤ 57)))) := rfl
    rw [hA]; simp; omega
  have h1n : 1 ≤ n := by omega
  have h32 : n ≤ 32 := by omega
  clear h0 h2 h3 h4 HF0 hB H2
  go_enter Tryz.func108, Tryz.ntmps108
  go_wp2
  clear hx0
  go_loopw [5, 6] (fun i c V => ∃ k : Nat, 1 ≤ k ∧ k ≤ n ∧ i = .int .i64 (k : Nat) ∧ V = w ∧ Hid (∀ j, j < k → f j = true)) (fun i _ _ => n - (intOf i).toNat)
  case atStart => exact ⟨1, Nat.le_refl _, h1n, rfl, rfl, fun j hj => by obtain rfl : j = 0 := (by omega); exact HZ0.out⟩
  case round =>
    obtain ⟨k, hk1, hk, rfl, rfl, HZ⟩ := hrel
    by_cases hlt : k < n
    · have t1 : decide ((k : Int) < (n : Int)) = true := by simp; omega
      have bk : (k : Int) < (n : Int) := by omega
      have hx := fun W => hix.out k W (by omega)
      have HK : Hid (f k = ofN (bt t k)) := HF.out k
      generalize bt t k = c at *
      have hA : Hid (ofN c = ((decide (97 ≤ c) && decide (c ≤ 122)) || ((decide (65 ≤ c) && decide (c ≤ 90)) || (decide (48 ≤ c) && decide (c ≤ 57))))) := rfl
      rcases (by omega : (c < 48) ∨ (48 ≤ c ∧ c ≤ 57) ∨ (58 ≤ c ∧ c < 65) ∨ (65 ≤ c ∧ c ≤ 90) ∨ (91 ≤ c ∧ c < 97) ∨ (97 ≤ c ∧ c ≤ 122) ∨ (122 < c)) with hc | hc | hc | hc | hc | hc | hc
      · have q0 : decide (97 ≤ c) = false := by simp; omega
        have q1 : decide (c ≤ 122) = true := by simp; omega
        have q2 : decide (65 ≤ c) = false := by simp; omega
        have q3 : decide (c ≤ 90) = true := by simp; omega
        have q4 : decide (48 ≤ c) = false := by simp; omega
        have q5 : decide (c ≤ 57) = true := by simp; omega
        have HV : Hid (f k = false) := by
          show _ = _
          rw [HK.out, hA.out, q0, q1, q2, q3, q4, q5]; rfl
        clear hc
        have HNO : Hid (pall f n = false) := pall_no hlt HV.out
        go_wp2
        go_ret
        exact ⟨ret_bool (HB3.out.trans HNO.out).symm, rfl⟩
      · have q0 : decide (97 ≤ c) = false := by simp; omega
        have q1 : decide (c ≤ 122) = true := by simp; omega
        have q2 : decide (65 ≤ c) = false := by simp; omega
        have q3 : decide (c ≤ 90) = true := by simp; omega
        have q4 : decide (48 ≤ c) = true := by simp; omega
        have q5 : decide (c ≤ 57) = true := by simp; omega
        have HV : Hid (f k = true) := by
          show _ = _
          rw [HK.out, hA.out, q0, q1, q2, q3, q4, q5]; rfl
        clear hc
        go_wp2
        go_roundw
        case rel => exact ⟨k + 1, by omega, by omega, by go_num, (by first | trivial | rfl), fun j hj => by
          by_cases e : j = k
          · subst e; exact HV.out
          · exact HZ.out j (by omega)⟩
        case measure => simp [intOf]; omega
      · have q0 : decide (97 ≤ c) = false := by simp; omega
        have q1 : decide (c ≤ 122) = true := by simp; omega
        have q2 : decide (65 ≤ c) = false := by simp; omega
        have q3 : decide (c ≤ 90) = true := by simp; omega
        have q4 : decide (48 ≤ c) = true := by simp; omega
        have q5 : decide (c ≤ 57) = false := by simp; omega
        have HV : Hid (f k = false) := by
          show _ = _
          rw [HK.out, hA.out, q0, q1, q2, q3, q4, q5]; rfl
        clear hc
        have HNO : Hid (pall f n = false) := pall_no hlt HV.out
        go_wp2
        go_ret
        exact ⟨ret_bool (HB3.out.trans HNO.out).symm, rfl⟩
      · have q0 : decide (97 ≤ c) = false := by simp; omega
        have q1 : decide (c ≤ 122) = true := by simp; omega
        have q2 : decide (65 ≤ c) = true := by simp; omega
        have q3 : decide (c ≤ 90) = true := by simp; omega
        have q4 : decide (48 ≤ c) = true := by simp; omega
        have q5 : decide (c ≤ 57) = false := by simp; omega
        have HV : Hid (f k = true) := by
          show _ = _
          rw [HK.out, hA.out, q0, q1, q2, q3, q4, q5]; rfl
        clear hc
        go_wp2
        go_roundw
        case rel => exact ⟨k + 1, by omega, by omega, by go_num, (by first | trivial | rfl), fun j hj => by
          by_cases e : j = k
          · subst e; exact HV.out
          · exact HZ.out j (by omega)⟩
        case measure => simp [intOf]; omega
      · have q0 : decide (97 ≤ c) = false := by simp; omega
        have q1 : decide (c ≤ 122) = true := by simp; omega
        have q2 : decide (65 ≤ c) = true := by simp; omega
        have q3 : decide (c ≤ 90) = false := by simp; omega
        have q4 : decide (48 ≤ c) = true := by simp; omega
        have q5 : decide (c ≤ 57) = false := by simp; omega
        have HV : Hid (f k = false) := by
          show _ = _
          rw [HK.out, hA.out, q0, q1, q2, q3, q4, q5]; rfl
        clear hc
        have HNO : Hid (pall f n = false) := pall_no hlt HV.out
        go_wp2
        go_ret
        exact ⟨ret_bool (HB3.out.trans HNO.out).symm, rfl⟩
      · have q0 : decide (97 ≤ c) = true := by simp; omega
        have q1 : decide (c ≤ 122) = true := by simp; omega
        have q2 : decide (65 ≤ c) = true := by simp; omega
        have q3 : decide (c ≤ 90) = false := by simp; omega
        have q4 : decide (48 ≤ c) = true := by simp; omega
        have q5 : decide (c ≤ 57) = false := by simp; omega
        have HV : Hid (f k = true) := by
          show _ = _
          rw [HK.out, hA.out, q0, q1, q2, q3, q4, q5]; rfl
        clear hc
        go_wp2
        go_roundw
        case rel => exact ⟨k + 1, by omega, by omega, by go_num, (by first | trivial | rfl), fun j hj => by
          by_cases e : j = k
          · subst e; exact HV.out
          · exact HZ.out j (by omega)⟩
        case measure => simp [intOf]; omega
      · have q0 : decide (97 ≤ c) = true := by simp; omega
        have q1 : decide (c ≤ 122) = false := by simp; omega
        have q2 : decide (65 ≤ c) = true := by simp; omega
        have q3 : decide (c ≤ 90) = false := by simp; omega
        have q4 : decide (48 ≤ c) = true := by simp; omega
        have q5 : decide (c ≤ 57) = false := by simp; omega
        have HV : Hid (f k = false) := by
          show _ = _
          rw [HK.out, hA.out, q0, q1, q2, q3, q4, q5]; rfl
        clear hc
        have HNO : Hid (pall f n = false) := pall_no hlt HV.out
        go_wp2
        go_ret
        exact ⟨ret_bool (HB3.out.trans HNO.out).symm, rfl⟩
    · obtain rfl : k = n := by omega
      have t1 : decide ((k : Int) < (k : Int)) = false := by simp
      have HY : Hid (pall f k = true) := (pall_iff f k).2 HZ.out
      go_wp2
      go_ret
      exact ⟨ret_bool (HB3.out.trans HY.out).symm, rfl⟩
set_option linter.unusedSimpArgs false in
set_option maxHeartbeats 4000000 in
theorem rname_65 (t : ByteArray) (w : World) (ht : t.size ≤ 140737488355328) : Calls Tryz.prog 108 #[.string t, .int .u8 65] w fun e w' => e = .returned (.bool (nmB 65 t)) ∧ w' = w := by
  have hB : Hid (nmB 65 t = (!(t.toList == ([] : List UInt8)) && (decide (t.size ≤ 32) && ((decide (65 ≤ bt t 0) && decide (bt t 0 ≤ 90)) && pall (fun i => ofN (bt t i)) t.size)))) := rfl
  have hbl := bt_lo t
  by_cases h0 : t.size = 0
  · have e1 : decide ((t.size : Int) < 1) = true := by simp; omega
    have HE : Hid (nmB 65 t = false) := by
      have e : t = ⟨#[]⟩ := by
        apply ByteArray.ext
        exact Array.eq_empty_of_size_eq_zero h0
      subst e
      show _ = _
      rw [hB.out]; simp
    clear h0 hbl
    go_enter Tryz.func108, Tryz.ntmps108
    go_wp2
    go_ret
    exact ⟨ret_bool HE.out.symm, rfl⟩
  have e1 : decide ((t.size : Int) < 1) = false := by simp; omega
  have HN : Hid ((t.toList == ([] : List UInt8)) = false) := by
    show _ = _
    cases h : t.toList == ([] : List UInt8)
    · rfl
    · exfalso
      have := eq_of_beq h
      rw [ByteArray.toList_eq] at this
      have h3 : t.data = #[] := by apply Array.ext'; rw [this]
      exact h0 (by show t.data.size = 0; rw [h3]; rfl)
  by_cases h2 : 32 < t.size
  · have e2 : decide ((32 : Int) < (t.size : Int)) = true := by simp; omega
    have HE : Hid (nmB 65 t = false) := by
      show _ = _
      rw [hB.out, show decide (t.size ≤ 32) = false from by simp; omega, Bool.false_and, Bool.and_false]
    clear h0 h2 hbl
    go_enter Tryz.func108, Tryz.ntmps108
    go_wp2
    go_ret
    exact ⟨ret_bool HE.out.symm, rfl⟩
  have e2 : decide ((32 : Int) < (t.size : Int)) = false := by simp; omega
  have H2 : Hid (decide (t.size ≤ 32) = true) := by show _ = _; simp; omega
  have hx0 : ∀ W, (Instr.index 9 (.string t) (.int .i64 0)).run Tryz.prog W = .ok (.int .u8 (bt t 0)) W := fun W => idx_str t 0 (by omega) W
  have hix : Hid (∀ (k : Nat) (W : World), k < t.size → (Instr.index 9 (.string t) (.int .i64 (k : Nat))).run Tryz.prog W = .ok (.int .u8 (bt t k)) W) := fun k W h => idx_str t k h W
  have hb0 := hbl 0
  obtain ⟨f, hf⟩ : ∃ f : Nat → Bool, ∀ i, f i = ofN (bt t i) := ⟨_, fun _ => rfl⟩
  have HP : Hid (pall (fun i => ofN (bt t i)) t.size = pall f t.size) := by rw [show f = fun i => ofN (bt t i) from funext hf]; exact rfl
  have HF0 := hf 0
  have HF : Hid (∀ i, f i = ofN (bt t i)) := hf
  have HBL : Hid (∀ i, 0 ≤ bt t i ∧ bt t i ≤ 255) := hbl
  have HB2 : Hid (bt t 0 = bt t 0) := rfl
  clear hf hbl
  obtain ⟨b0, hb⟩ : ∃ b0, b0 = bt t 0 := ⟨_, rfl⟩
  rw [← hb] at hx0 hb0 HF0
  have hB : Hid (nmB 65 t = (!(t.toList == ([] : List UInt8)) && (decide (t.size ≤ 32) && ((decide (65 ≤ b0) && decide (b0 ≤ 90)) && pall f t.size)))) := by
    show _ = _
    rw [hB.out, HP.out, ← hb]
  clear hb HB2
  generalize hn : t.size = n at *
  by_cases h3 : b0 < 65
  · have e3 : decide (b0 < 65) = true := by simp; omega
    have HE : Hid (nmB 65 t = false) := by
      show _ = _
      rw [hB.out, show decide (65 ≤ b0) = false from by simp; omega, Bool.false_and, Bool.false_and, Bool.and_false, Bool.and_false]
    clear h0 h2 h3 HF0
    go_enter Tryz.func108, Tryz.ntmps108
    go_wp2
    go_ret
    exact ⟨ret_bool HE.out.symm, rfl⟩
  have e3 : decide (b0 < 65) = false := by simp; omega
  by_cases h4 : 90 < b0
  · have e4 : decide (90 < b0) = true := by simp; omega
    have HE : Hid (nmB 65 t = false) := by
      show _ = _
      rw [hB.out, show decide (b0 ≤ 90) = false from by simp; omega, Bool.and_false, Bool.false_and, Bool.and_false, Bool.and_false]
    clear h0 h2 h3 h4 HF0
    go_enter Tryz.func108, Tryz.ntmps108
    go_wp2
    go_ret
    exact ⟨ret_bool HE.out.symm, rfl⟩
  have e4 : decide (90 < b0) = false := by simp; omega
  have HB3 : Hid (nmB 65 t = pall f n) := by
    show _ = _
    rw [hB.out, HN.out, H2.out, show decide (65 ≤ b0) = true from by simp; omega, show decide (b0 ≤ 90) = true from by simp; omega]; simp
  have HZ0 : Hid (f 0 = true) := by
    show _ = _
    rw [HF0]
    have hA : ofN b0 = ((decide (97 ≤ b0) && decide (b0 ≤ 122)) || ((decide (65 ≤ b0) && decide (b0 ≤ 90)) || (decide (48 ≤ b0) && decide (b0 ≤ 57)))) := rfl
    rw [hA]; simp; omega
  have h1n : 1 ≤ n := by omega
  have h32 : n ≤ 32 := by omega
  clear h0 h2 h3 h4 HF0 hB H2
  go_enter Tryz.func108, Tryz.ntmps108
  go_wp2
  clear hx0
  go_loopw [5, 6] (fun i c V => ∃ k : Nat, 1 ≤ k ∧ k ≤ n ∧ i = .int .i64 (k : Nat) ∧ V = w ∧ Hid (∀ j, j < k → f j = true)) (fun i _ _ => n - (intOf i).toNat)
  case atStart => exact ⟨1, Nat.le_refl _, h1n, rfl, rfl, fun j hj => by obtain rfl : j = 0 := (by omega); exact HZ0.out⟩
  case round =>
    obtain ⟨k, hk1, hk, rfl, rfl, HZ⟩ := hrel
    by_cases hlt : k < n
    · have t1 : decide ((k : Int) < (n : Int)) = true := by simp; omega
      have bk : (k : Int) < (n : Int) := by omega
      have hx := fun W => hix.out k W (by omega)
      have HK : Hid (f k = ofN (bt t k)) := HF.out k
      generalize bt t k = c at *
      have hA : Hid (ofN c = ((decide (97 ≤ c) && decide (c ≤ 122)) || ((decide (65 ≤ c) && decide (c ≤ 90)) || (decide (48 ≤ c) && decide (c ≤ 57))))) := rfl
      rcases (by omega : (c < 48) ∨ (48 ≤ c ∧ c ≤ 57) ∨ (58 ≤ c ∧ c < 65) ∨ (65 ≤ c ∧ c ≤ 90) ∨ (91 ≤ c ∧ c < 97) ∨ (97 ≤ c ∧ c ≤ 122) ∨ (122 < c)) with hc | hc | hc | hc | hc | hc | hc
      · have q0 : decide (97 ≤ c) = false := by simp; omega
        have q1 : decide (c ≤ 122) = true := by simp; omega
        have q2 : decide (65 ≤ c) = false := by simp; omega
        have q3 : decide (c ≤ 90) = true := by simp; omega
        have q4 : decide (48 ≤ c) = false := by simp; omega
        have q5 : decide (c ≤ 57) = true := by simp; omega
        have HV : Hid (f k = false) := by
          show _ = _
          rw [HK.out, hA.out, q0, q1, q2, q3, q4, q5]; rfl
        clear hc
        have HNO : Hid (pall f n = false) := pall_no hlt HV.out
        go_wp2
        go_ret
        exact ⟨ret_bool (HB3.out.trans HNO.out).symm, rfl⟩
      · have q0 : decide (97 ≤ c) = false := by simp; omega
        have q1 : decide (c ≤ 122) = true := by simp; omega
        have q2 : decide (65 ≤ c) = false := by simp; omega
        have q3 : decide (c ≤ 90) = true := by simp; omega
        have q4 : decide (48 ≤ c) = true := by simp; omega
        have q5 : decide (c ≤ 57) = true := by simp; omega
        have HV : Hid (f k = true) := by
          show _ = _
          rw [HK.out, hA.out, q0, q1, q2, q3, q4, q5]; rfl
        clear hc
        go_wp2
        go_roundw
        case rel => exact ⟨k + 1, by omega, by omega, by go_num, (by first | trivial | rfl), fun j hj => by
          by_cases e : j = k
          · subst e; exact HV.out
          · exact HZ.out j (by omega)⟩
        case measure => simp [intOf]; omega
      · have q0 : decide (97 ≤ c) = false := by simp; omega
        have q1 : decide (c ≤ 122) = true := by simp; omega
        have q2 : decide (65 ≤ c) = false := by simp; omega
        have q3 : decide (c ≤ 90) = true := by simp; omega
        have q4 : decide (48 ≤ c) = true := by simp; omega
        have q5 : decide (c ≤ 57) = false := by simp; omega
        have HV : Hid (f k = false) := by
          show _ = _
          rw [HK.out, hA.out, q0, q1, q2, q3, q4, q5]; rfl
        clear hc
        have HNO : Hid (pall f n = false) := pall_no hlt HV.out
        go_wp2
        go_ret
        exact ⟨ret_bool (HB3.out.trans HNO.out).symm, rfl⟩
      · have q0 : decide (97 ≤ c) = false := by simp; omega
        have q1 : decide (c ≤ 122) = true := by simp; omega
        have q2 : decide (65 ≤ c) = true := by simp; omega
        have q3 : decide (c ≤ 90) = true := by simp; omega
        have q4 : decide (48 ≤ c) = true := by simp; omega
        have q5 : decide (c ≤ 57) = false := by simp; omega
        have HV : Hid (f k = true) := by
          show _ = _
          rw [HK.out, hA.out, q0, q1, q2, q3, q4, q5]; rfl
        clear hc
        go_wp2
        go_roundw
        case rel => exact ⟨k + 1, by omega, by omega, by go_num, (by first | trivial | rfl), fun j hj => by
          by_cases e : j = k
          · subst e; exact HV.out
          · exact HZ.out j (by omega)⟩
        case measure => simp [intOf]; omega
      · have q0 : decide (97 ≤ c) = false := by simp; omega
        have q1 : decide (c ≤ 122) = true := by simp; omega
        have q2 : decide (65 ≤ c) = true := by simp; omega
        have q3 : decide (c ≤ 90) = false := by simp; omega
        have q4 : decide (48 ≤ c) = true := by simp; omega
        have q5 : decide (c ≤ 57) = false := by simp; omega
        have HV : Hid (f k = false) := by
          show _ = _
          rw [HK.out, hA.out, q0, q1, q2, q3, q4, q5]; rfl
        clear hc
        have HNO : Hid (pall f n = false) := pall_no hlt HV.out
        go_wp2
        go_ret
        exact ⟨ret_bool (HB3.out.trans HNO.out).symm, rfl⟩
      · have q0 : decide (97 ≤ c) = true := by simp; omega
        have q1 : decide (c ≤ 122) = true := by simp; omega
        have q2 : decide (65 ≤ c) = true := by simp; omega
        have q3 : decide (c ≤ 90) = false := by simp; omega
        have q4 : decide (48 ≤ c) = true := by simp; omega
        have q5 : decide (c ≤ 57) = false := by simp; omega
        have HV : Hid (f k = true) := by
          show _ = _
          rw [HK.out, hA.out, q0, q1, q2, q3, q4, q5]; rfl
        clear hc
        go_wp2
        go_roundw
        case rel => exact ⟨k + 1, by omega, by omega, by go_num, (by first | trivial | rfl), fun j hj => by
          by_cases e : j = k
          · subst e; exact HV.out
          · exact HZ.out j (by omega)⟩
        case measure => simp [intOf]; omega
      · have q0 : decide (97 ≤ c) = true := by simp; omega
        have q1 : decide (c ≤ 122) = false := by simp; omega
        have q2 : decide (65 ≤ c) = true := by simp; omega
        have q3 : decide (c ≤ 90) = false := by simp; omega
        have q4 : decide (48 ≤ c) = true := by simp; omega
        have q5 : decide (c ≤ 57) = false := by simp; omega
        have HV : Hid (f k = false) := by
          show _ = _
          rw [HK.out, hA.out, q0, q1, q2, q3, q4, q5]; rfl
        clear hc
        have HNO : Hid (pall f n = false) := pall_no hlt HV.out
        go_wp2
        go_ret
        exact ⟨ret_bool (HB3.out.trans HNO.out).symm, rfl⟩
    · obtain rfl : k = n := by omega
      have t1 : decide ((k : Int) < (k : Int)) = false := by simp
      have HY : Hid (pall f k = true) := (pall_iff f k).2 HZ.out
      go_wp2
      go_ret
      exact ⟨ret_bool (HB3.out.trans HY.out).symm, rfl⟩
end Go.Proofs.YtiahilelcppfgaaGreat
