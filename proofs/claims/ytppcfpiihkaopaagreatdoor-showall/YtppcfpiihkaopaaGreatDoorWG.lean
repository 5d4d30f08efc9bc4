
/- The document's reading of one number. -/

import Derived.Test.YtppcfpiihkaopaaGreatDoorWF

namespace Go.Proofs.YtppcfpiihkaopaaGreatDoor

open Go.RowKit

set_option linter.unusedVariables false

theorem idx10 (l : List UInt8) (k : Nat) (h : k < l.length) (W : World) : Sem.run Tryz.prog (Instr.index 9 (.string ⟨l.toArray⟩) (.int .i64 (k : Nat))) W = .ok (.int .u8 (bt l k)) W := by
  have e := Tryz.underlying9
  have e2 : bt l k = ((l[k]'h).toNat : Int) := bt_some (List.getElem?_eq_getElem h)
  have hs : (⟨l.toArray⟩ : ByteArray).size = l.length := by simp [ByteArray.size]
  rw [e2]
  simp [go_sem, e, h]
  rfl
theorem gtr10 (x t : ByteArray) (W : World) : Sem.run Tryz.prog (binOp .gtr 9 (.string x) (.string t)) W = .ok (.bool (!(Op.bytesLess x.toList t.toList || x.toList == t.toList))) W := rfl
theorem less_tri : ∀ (a b : List UInt8), a.length = b.length → a = b ∨ Op.bytesLess a b = true ∨ Op.bytesLess b a = true
  | [], [], _ => .inl rfl
  | [], _ :: _, h => by simp at h
  | _ :: _, [], h => by simp at h
  | x :: a, y :: b, h => by
    have hl : a.length = b.length := by simpa using h
    rcases Nat.lt_trichotomy x.toNat y.toNat with c | c | c
    · have hlt : x < y := UInt8.lt_iff_toNat_lt.2 c
      exact .inr (.inl (by rw [Op.bytesLess]; simp [hlt]))
    · obtain rfl : x = y := UInt8.toNat_inj.1 c
      rcases less_tri a b hl with e | e | e
      · subst e; exact .inl rfl
      · exact .inr (.inl (by rw [Op.bytesLess]; simp [e]))
      · exact .inr (.inr (by rw [Op.bytesLess]; simp [e]))
    · have hlt : y < x := UInt8.lt_iff_toNat_lt.2 c
      exact .inr (.inr (by rw [Op.bytesLess]; simp [hlt]))
theorem gtr_less (a b : List UInt8) (hl : a.length = b.length) (ha : ∀ x ∈ a, isD x = true) (hb : ∀ x ∈ b, isD x = true) : (!(Op.bytesLess a b || a == b)) = Op.bytesLess b a := by
  have h1 := less_vl a b 0 hl ha hb
  have h2 := less_vl b a 0 hl.symm hb ha
  rcases less_tri a b hl with e | e | e
  · subst e
    have : Op.bytesLess a a = false := by
      cases c : Op.bytesLess a a
      · rfl
      · exact absurd (h1.1 c) (Nat.lt_irrefl _)
    rw [this]; simp
  · have hv := h1.1 e
    have : Op.bytesLess b a = false := by
      cases c : Op.bytesLess b a
      · rfl
      · exact absurd (h2.1 c) (by omega)
    rw [e, this]; rfl
  · have hv := h2.1 e
    have h3 : Op.bytesLess a b = false := by
      cases c : Op.bytesLess a b
      · rfl
      · exact absurd (h1.1 c) (by omega)
    have h4 : (a == b) = false := by
      cases c : a == b
      · rfl
      · have := eq_of_beq c
        subst this
        exact absurd hv (Nat.lt_irrefl _)
    rw [h3, h4, e]; rfl
set_option maxHeartbeats 1000000 in
theorem digit10_any (c : Int) (b : Bool) (w : World) (hb : b = decide (48 ≤ c ∧ c ≤ 57)) : Calls Tryz.prog 56 #[.int .u8 c] w fun e w' => e = .returned (.bool b) ∧ w' = w := by
  by_cases h1 : 48 ≤ c
  · have t1 : decide (48 ≤ c) = true := by simpa using h1
    by_cases h2 : c ≤ 57
    · have t2 : decide (c ≤ 57) = true := by simpa using h2
      have e : b = true := by rw [hb]; simp [h1, h2]
      subst e
      clear hb
      go_enter Tryz.func56, Tryz.ntmps56
      go_wp2
      go_ret
      exact ⟨rfl, rfl⟩
    · have t2 : decide (c ≤ 57) = false := by simpa using h2
      have e : b = false := by rw [hb]; simp [h2]
      subst e
      clear hb
      go_enter Tryz.func56, Tryz.ntmps56
      go_wp2
      go_ret
      exact ⟨rfl, rfl⟩
  · have t1 : decide (48 ≤ c) = false := by simpa using h1
    have e : b = false := by rw [hb]; simp [h1]
    subst e
    clear hb
    go_enter Tryz.func56, Tryz.ntmps56
    go_wp2
    go_ret
    exact ⟨rfl, rfl⟩
/-- What is told of a number: its value, the place behind it; or a place and an error. -/
def numS (l : List UInt8) (fr upto : Nat) : Int × Nat × Int := match Go.Lib.parseIntB 64 (fixm (pce l fr upto)) with
  | .ok v => (v, upto, 0)
  | _ => (0, fr, 30)
def scS (l : List UInt8) (at' : Nat) : Int × Nat × Int :=
  if bt l at' = 95 then (if 49 ≤ bt l (at' + 1) ∧ bt l (at' + 1) ≤ 57 then numS l at' (at' + 2 + dgs l (at' + 2)) else (0, at' + 1, 37))
  else if bt l at' = 48 ∧ 48 ≤ bt l (at' + 1) ∧ bt l (at' + 1) ≤ 57 then (0, at' + 1, 37)
  else numS l at' (at' + 1 + dgs l (at' + 1))
def AnsN (w : World) (v : Int × Nat × Int) (e : Ending) (w' : World) : Prop := e = .returned (.tuple #[.int .i64 v.1, .int .i64 (v.2.1 : Nat), .int .i64 v.2.2]) ∧ Below w.heap.size w w'
theorem bt_get {l : List UInt8} {i : Nat} (h : i < l.length) : bt l i = ((l[i]'h).toNat : Int) := bt_some (List.getElem?_eq_getElem h)
theorem vl_one (acc : Nat) (c : UInt8) : vl acc [c] = acc * 10 + (c.toNat - 48) := rfl
/-- Some digits of a text. -/
theorem ds_facts (l : List UInt8) (f u : Nat) (hfu : f < u) (hul : u ≤ l.length) (hd : ∀ i, f ≤ i → i < u → 48 ≤ bt l i ∧ bt l i ≤ 57) (h0 : u = f + 1 ∨ 49 ≤ bt l f) :
    ((l.drop f).take (u - f)).length = u - f ∧ (∀ b ∈ (l.drop f).take (u - f), isD b = true) ∧ (((l.drop f).take (u - f)) = [48] ∨ ∃ c r, (l.drop f).take (u - f) = c :: r ∧ 49 ≤ c.toNat) ∧
    (∀ j, j < u - f → vl 0 (((l.drop f).take (u - f)).take (j + 1)) = vl 0 (((l.drop f).take (u - f)).take j) * 10 + (bt l (f + j) - 48).toNat) ∧ ∃ c r, (l.drop f).take (u - f) = c :: r := by
  have hlen : ((l.drop f).take (u - f)).length = u - f := by rw [List.length_take, List.length_drop]; omega
  have hget : ∀ j, j < u - f → ((l.drop f).take (u - f))[j]? = l[f + j]? := fun j hj => by
    rw [List.getElem?_take_of_lt hj, List.getElem?_drop]
  have hdig : ∀ b ∈ (l.drop f).take (u - f), isD b = true := fun b hb => by
    obtain ⟨j, hj, e⟩ := List.getElem_of_mem hb
    rw [hlen] at hj
    have h1 := hget j hj
    rw [List.getElem?_eq_getElem (by rw [hlen]; exact hj), e, List.getElem?_eq_getElem (by omega)] at h1
    have h2 := hd (f + j) (by omega) (by omega)
    rw [bt_get (by omega), ← Option.some.inj h1] at h2
    simp only [isD, Bool.and_eq_true, decide_eq_true_eq]
    omega
  have hcr : ∃ c r, (l.drop f).take (u - f) = c :: r := by
    cases e : (l.drop f).take (u - f) with
    | nil => rw [e] at hlen; simp at hlen; omega
    | cons c r => exact ⟨c, r, rfl⟩
  refine ⟨hlen, hdig, ?_, fun j hj => ?_, hcr⟩
  · obtain ⟨c, r, e⟩ := hcr
    have h1 := hget 0 (by omega)
    rw [e, List.getElem?_cons_zero, Nat.add_zero, List.getElem?_eq_getElem (by omega)] at h1
    have hc : bt l f = (c.toNat : Int) := by rw [bt_get (by omega), ← Option.some.inj h1]
    by_cases h49 : 49 ≤ c.toNat
    · exact .inr ⟨c, r, e, h49⟩
    · left
      have hu : u = f + 1 := h0.resolve_right (by omega)
      have hr : r = [] := by
        rw [e] at hlen
        simp at hlen
        exact List.eq_nil_of_length_eq_zero (by omega)
      have h48 := hd f (Nat.le_refl _) hfu
      rw [e, hr, byte_eq (b := c) (n := 48) (by omega)]
      rfl
  · have h1 := hget j hj
    have hjl : j < ((l.drop f).take (u - f)).length := by rw [hlen]; exact hj
    rw [List.getElem?_eq_getElem hjl, List.getElem?_eq_getElem (by omega)] at h1
    rw [List.take_add_one, List.getElem?_eq_getElem hjl, vl_app, bt_get (by omega), ← Option.some.inj h1]
    simp only [Option.toList]
    rw [vl_one]
    omega
theorem vl_take (ds : List UInt8) (j : Nat) : vl 0 (ds.take j) ≤ vl 0 ds := by
  have h := vl_le (ds.drop j) (vl 0 (ds.take j))
  rw [← vl_app, List.take_append_drop] at h
  exact h
theorem cmp_digits (ds M : List UInt8) (hl : ds.length = M.length) (hd : ∀ b ∈ ds, isD b = true) (hM : ∀ b ∈ M, isD b = true) (W : World) : Sem.run Tryz.prog (binOp .gtr 9 (.string ⟨ds.toArray⟩) (.string ⟨M.toArray⟩)) W = .ok (.bool (Op.bytesLess M ds)) W := by
  rw [gtr10, ← gtr_less ds M hl hd hM]
  have e : ∀ a : List UInt8, (⟨a.toArray⟩ : ByteArray).toList = a := fun a => by rw [ByteArray.toList_eq]
  rw [e, e]
set_option linter.unusedSimpArgs false in
set_option maxHeartbeats 4000000 in
set_option maxRecDepth 100000 in
/-- A sign with no digit from 1 to 9 behind it. -/
theorem scan_sign (l : List UInt8) (a : Nat) (w : World) (hl : l.length ≤ 9223372036854775806) (ha : a < l.length) (h95 : bt l a = 95) (hn : ¬ (49 ≤ bt l (a + 1) ∧ bt l (a + 1) ≤ 57)) :
    Calls Tryz.prog 57 #[.string ⟨l.toArray⟩, .int .i64 (a : Nat)] w (AnsN w (0, a + 1, 37)) := by
  have i0 : ∀ W, Sem.run Tryz.prog (Instr.index 9 (.string ⟨l.toArray⟩) (.int .i64 (a : Nat))) W = .ok (.int .u8 (bt l (a))) W := fun W => idx10 l a ha W
  rw [h95] at i0
  obtain ⟨b, hb⟩ : ∃ b, b = a + 1 := ⟨_, rfl⟩
  rw [← hb] at hn ⊢
  have wa : IntKind.i64.wrap ((a : Int) + 1) = (b : Int) := by rw [IntKind.wrap_i64]; omega
  have ea : (a : Int) + 1 = (b : Int) := by omega
  have hbl : b ≤ l.length := by omega
  clear hb
  by_cases he : b = l.length
  · have te : ((b : Int) == (l.length : Int)) = true := by simp; omega
    have te2 : (b == l.length) = true := by simp; omega
    clear he hn
    go_enter Tryz.func57, Tryz.ntmps57
    go_wp2
    refine bodyPost_ret (v := .tuple #[.int .i64 0, .int .i64 (b : Nat), .int .i64 37]) (by simp [results, Tryz.results57]) rfl ?_
    exact ⟨rfl, Below.refl _ _⟩
  · have te : ((b : Int) == (l.length : Int)) = false := by simp; omega
    have te2 : (b == l.length) = false := by simp; omega
    have hbl' : b < l.length := by omega
    have hbi : (b : Int) < (l.length : Int) := by omega
    have i1 : ∀ W, Sem.run Tryz.prog (Instr.index 9 (.string ⟨l.toArray⟩) (.int .i64 (b : Nat))) W = .ok (.int .u8 (bt l (b))) W := fun W => idx10 l b hbl' W
    generalize bt l b = c at *
    clear he
    by_cases h1 : c < 49
    · have t1 : decide (c < 49) = true := by simpa using h1
      clear hn h1
      go_enter Tryz.func57, Tryz.ntmps57
      go_wp2
      refine bodyPost_ret (v := .tuple #[.int .i64 0, .int .i64 (b : Nat), .int .i64 37]) (by simp [results, Tryz.results57]) rfl ?_
      exact ⟨rfl, Below.refl _ _⟩
    · have t1 : decide (c < 49) = false := by simpa using h1
      have t2 : decide (57 < c) = true := by simp; omega
      have h2 : 57 < c := by omega
      clear hn
      go_enter Tryz.func57, Tryz.ntmps57
      go_wp2
      refine bodyPost_ret (v := .tuple #[.int .i64 0, .int .i64 (b : Nat), .int .i64 37]) (by simp [results, Tryz.results57]) rfl ?_
      exact ⟨rfl, Below.refl _ _⟩
set_option linter.unusedSimpArgs false in
set_option maxHeartbeats 4000000 in
set_option maxRecDepth 100000 in
/-- A 0 with a digit behind it. -/
theorem scan_zero (l : List UInt8) (a : Nat) (w : World) (hl : l.length ≤ 9223372036854775806) (ha : a < l.length) (h48 : bt l a = 48) (hn : 48 ≤ bt l (a + 1) ∧ bt l (a + 1) ≤ 57) :
    Calls Tryz.prog 57 #[.string ⟨l.toArray⟩, .int .i64 (a : Nat)] w (AnsN w (0, a + 1, 37)) := by
  have i0 : ∀ W, Sem.run Tryz.prog (Instr.index 9 (.string ⟨l.toArray⟩) (.int .i64 (a : Nat))) W = .ok (.int .u8 (bt l (a))) W := fun W => idx10 l a ha W
  rw [h48] at i0
  obtain ⟨b, hb⟩ : ∃ b, b = a + 1 := ⟨_, rfl⟩
  rw [← hb] at hn ⊢
  have wa : IntKind.i64.wrap ((a : Int) + 1) = (b : Int) := by rw [IntKind.wrap_i64]; omega
  have ea : (a : Int) + 1 = (b : Int) := by omega
  have hbl : b < l.length := by
    rcases Nat.lt_or_ge b l.length with h | h
    · exact h
    · rw [bt_none h] at hn; omega
  have hab : a < b := by omega
  have HB : Hid (b = a + 1) := hb
  have i1 : ∀ W, Sem.run Tryz.prog (Instr.index 9 (.string ⟨l.toArray⟩) (.int .i64 (b : Nat))) W = .ok (.int .u8 (bt l (b))) W := fun W => idx10 l b hbl W
  have cA := fun W => digit10_any 48 true W (by decide)
  have cB := fun W => digit10_any (bt l b) true W (by simp [hn])
  generalize bt l b = c at *
  clear hb
  go_enter Tryz.func57, Tryz.ntmps57
  go_wp2
  refine wp_loop_rounds 2 ?_
  iterate 2 (rw [rounds_succ]; go_wp2_with (first | (go_at_call 56; (with_reducible refine (cA _).mono ?_); rintro e w' ⟨rfl, rfl⟩) | (go_at_call 56; (with_reducible refine (cB _).mono ?_); rintro e w' ⟨rfl, rfl⟩)))
  refine bodyPost_ret (v := .tuple #[.int .i64 0, .int .i64 (b : Nat), .int .i64 37]) (by simp [results, Tryz.results57]) rfl ?_
  exact ⟨rfl, Below.refl _ _⟩
set_option linter.unusedSimpArgs false in
set_option maxHeartbeats 8000000 in
set_option maxRecDepth 100000 in
/-- A number without a sign. -/
theorem scan_pos (l : List UInt8) (a u : Nat) (w : World) (hl : l.length ≤ 9223372036854775806) (hfu : a < u) (hul : u ≤ l.length) (hd : ∀ i, a ≤ i → i < u → 48 ≤ bt l i ∧ bt l i ≤ 57) (hs : ¬ (48 ≤ bt l u ∧ bt l u ≤ 57)) (h0 : u = a + 1 ∨ 49 ≤ bt l a) :
    Calls Tryz.prog 57 #[.string ⟨l.toArray⟩, .int .i64 (a : Nat)] w (AnsN w (numS l a u)) := by
  have HD : Hid (∀ i, a ≤ i → i < u → 48 ≤ bt l i ∧ bt l i ≤ 57) := hd
  have H0 : Hid (u = a + 1 ∨ 49 ≤ bt l a) := h0
  have HS : Hid (¬ (48 ≤ bt l u ∧ bt l u ≤ 57)) := hs
  have hal : a < l.length := by omega
  have hai : (a : Int) < (l.length : Int) := by omega
  have i0 : ∀ W, Sem.run Tryz.prog (Instr.index 9 (.string ⟨l.toArray⟩) (.int .i64 (a : Nat))) W = .ok (.int .u8 (bt l (a))) W := fun W => idx10 l a hal W
  have t95 : (bt l a == 95) = false := by have := hd a (Nat.le_refl _) hfu; simp; omega
  generalize hc9 : bt l a = c9 at i0 t95
  clear hd h0 hs hc9
  go_enter Tryz.func57, Tryz.ntmps57
  go_wp2
  go_loopw [1] (fun i V => ∃ k : Nat, a ≤ k ∧ k ≤ u ∧ i = .int .i64 (k : Nat) ∧ V = w) (fun i _ => u - (intOf i).toNat)
  case atStart => exact ⟨a, Nat.le_refl _, Nat.le_of_lt hfu, rfl, rfl⟩
  case round =>
    obtain ⟨k, hk1, hk2, rfl, hw⟩ := hrel
    subst hw
    clear i0
    by_cases hlt : k < u
    · have hkl : k < l.length := by omega
      have hki : (k : Int) < (l.length : Int) := by omega
      have ik : ∀ W, Sem.run Tryz.prog (Instr.index 9 (.string ⟨l.toArray⟩) (.int .i64 (k : Nat))) W = .ok (.int .u8 (bt l (k))) W := fun W => idx10 l k hkl W
      have hdk := HD.out k hk1 hlt
      have cD := fun W => digit10_any (bt l k) true W (by simp [hdk])
      have wk : IntKind.i64.wrap ((k : Int) + 1) = ((k : Int) + 1) := by rw [IntKind.wrap_i64]; omega
      by_cases hkf : k = a
      · have tn : decide (((a : Nat) : Int) < (k : Int)) = false := by simp; omega
        have tnn : ¬ a < k := by omega
        have HK : Hid (k = a) := hkf
        generalize bt l k = c at ik cD
        clear hdk hkf
        go_wp2_with (go_at_call 56; (with_reducible refine (cD _).mono ?_); rintro e w' ⟨rfl, hw'⟩; have hw2' := hw'.symm; subst hw2'; clear hw')
        go_roundw
        case rel => exact ⟨k + 1, by omega, by omega, by go_num, by simp⟩
        case measure => simp [intOf] <;> omega
      · have tk : ((a : Nat) : Int) < (k : Int) := by omega
        have tkn : a < k := by omega
        have h49 : 49 ≤ bt l a := H0.out.resolve_left (by omega)
        have t48 : (bt l a == 48) = false := by simp; omega
        have jf : ∀ W, Sem.run Tryz.prog (Instr.index 9 (.string ⟨l.toArray⟩) (.int .i64 (a : Nat))) W = .ok (.int .u8 (bt l (a))) W := fun W => idx10 l a (by omega) W
        generalize bt l a = c0 at jf t48 h49
        generalize bt l k = c at ik cD
        clear hdk hkf
        go_wp2_with (go_at_call 56; (with_reducible refine (cD _).mono ?_); rintro e w' ⟨rfl, hw'⟩; have hw2' := hw'.symm; subst hw2'; clear hw')
        go_roundw
        case rel => exact ⟨k + 1, by omega, by omega, by go_num, by simp⟩
        case measure => simp [intOf] <;> omega
    · obtain rfl : k = u := by omega
      obtain ⟨n, hn⟩ : ∃ n, n = k - a := ⟨_, rfl⟩
      obtain ⟨fl1, fl2, fl3, fl4, c, r, fl5⟩ := ds_facts l a k hfu hul HD.out H0.out
      rw [← hn] at fl1 fl2 fl3 fl4 fl5
      have hcut := bs_cut l a k
      rw [← hn] at hcut
      obtain ⟨ds, hds⟩ : ∃ ds, ds = (l.drop a).take n := ⟨_, rfl⟩
      rw [← hds] at fl1 fl2 fl3 fl4 fl5 hcut
      have HDS : Hid (ds = (l.drop a).take n) := hds
      have wn : IntKind.i64.wrap ((k : Int) - ((a : Nat) : Int)) = (n : Int) := by rw [IntKind.wrap_i64]; omega
      have en : (k : Int) - ((a : Nat) : Int) = (n : Int) := by omega
      have HN : Hid (n = k - a) := hn
      have hbig := big_iff ds d7 rfl is_d7 (by rw [vl_d7]; decide) fl2 fl3
      rw [fl1, vl_d7] at hbig
      have HBIG : Hid ((19 < n ∨ n = 19 ∧ Op.bytesLess d7 ds = true) ↔ 9223372036854775807 < vl 0 ds) := hbig
      have HP : Hid (numS l a k = if vl 0 ds ≤ 9223372036854775807 then (((vl 0 ds : Nat) : Int), k, 0) else (0, a, 30)) := by
        show _ = _
        unfold numS
        rw [show pce l a k = ds from by unfold pce; rw [HDS.out, HN.out], fl5, parse_pos c r (by rw [← fl5]; exact fl2)]
        by_cases hv : vl 0 (c :: r) ≤ 9223372036854775807
        · rw [if_pos hv, if_pos hv]
        · rw [if_neg hv, if_neg hv]
      have HF4 : Hid (∀ j, j < n → vl 0 (ds.take (j + 1)) = vl 0 (ds.take j) * 10 + (bt l (a + j) - 48).toNat) := fl4
      have hn1 : 1 ≤ n := by omega
      have hnl : n ≤ 9223372036854775806 := by omega
      have H19 : Hid (ds.length = n) := fl1
      have HIS : Hid (∀ b ∈ ds, isD b = true) := fl2
      clear hds hn fl1 fl2 fl3 fl4 fl5 hbig
      by_cases hul2 : k = l.length
      · have tl : decide ((k : Int) < (l.length : Int)) = false := by simp; omega
        have tln : ¬ k < l.length := by omega
        have HUL : Hid (k = l.length) := hul2
        clear hul2
        by_cases h1 : 19 < n
        · have t1 : decide ((19 : Int) < (n : Int)) = true := by simp; omega
          have t1n : 19 < n := h1
          have t1i : (19 : Int) < (n : Int) := by omega
          go_wp2
          refine bodyPost_ret (v := .tuple #[.int .i64 (0), .int .i64 ((a : Nat)), .int .i64 30]) (by simp [results, Tryz.results57]) rfl ?_
          refine ⟨?_, Below.refl _ _⟩
          rw [HP.out, if_neg (by have := HBIG.out.1 (.inl h1); omega)]
        · have t1 : decide ((19 : Int) < (n : Int)) = false := by simp; omega
          have t1i : ¬ (19 : Int) < (n : Int) := by omega
          by_cases h2 : n = 19 ∧ Op.bytesLess d7 ds = true
          · have t2 : ((n : Int) == 19) = true := by simp [h2.1]
            have t2n : (n == 19) = true := by simp [h2.1]
            have cg : ∀ W, Sem.run Tryz.prog (binOp .gtr 9 (.string (ByteArray.extract ⟨l.toArray⟩ a k)) (.string ⟨#[57, 50, 50, 51, 51, 55, 50, 48, 51, 54, 56, 53, 52, 55, 55, 53, 56, 48, 55]⟩)) W = .ok (.bool true) W := fun W => by
              rw [hcut, show (⟨#[57, 50, 50, 51, 51, 55, 50, 48, 51, 54, 56, 53, 52, 55, 55, 53, 56, 48, 55]⟩ : ByteArray) = ⟨d7.toArray⟩ from rfl, cmp_digits ds d7 (by rw [H19.out, h2.1]; rfl) HIS.out is_d7, h2.2]
            have HG : Hid (n = 19 ∧ Op.bytesLess d7 ds = true) := h2
            clear h2 hcut
            go_wp2
            refine bodyPost_ret (v := .tuple #[.int .i64 (0), .int .i64 ((a : Nat)), .int .i64 30]) (by simp [results, Tryz.results57]) rfl ?_
            refine ⟨?_, Below.refl _ _⟩
            rw [HP.out, if_neg (by have := HBIG.out.1 (.inr HG.out); omega)]
          · have hv : vl 0 ds ≤ 9223372036854775807 := by
              rcases Nat.lt_or_ge 9223372036854775807 (vl 0 ds) with c | c
              · rcases HBIG.out.2 c with e | e
                · exact absurd e h1
                · exact absurd e h2
              · exact c
            have HP' : Hid (numS l a k = (((vl 0 ds : Nat) : Int), k, 0)) := by show _ = _; rw [HP.out, if_pos hv]
            have HV : Hid (vl 0 ds ≤ 9223372036854775807) := hv
            by_cases h3 : n = 19
            · have t2 : ((n : Int) == 19) = true := by simp [h3]
              have t2n : (n == 19) = true := by simp [h3]
              have cg : ∀ W, Sem.run Tryz.prog (binOp .gtr 9 (.string (ByteArray.extract ⟨l.toArray⟩ a k)) (.string ⟨#[57, 50, 50, 51, 51, 55, 50, 48, 51, 54, 56, 53, 52, 55, 55, 53, 56, 48, 55]⟩)) W = .ok (.bool false) W := fun W => by
                rw [hcut, show (⟨#[57, 50, 50, 51, 51, 55, 50, 48, 51, 54, 56, 53, 52, 55, 55, 53, 56, 48, 55]⟩ : ByteArray) = ⟨d7.toArray⟩ from rfl, cmp_digits ds d7 (by rw [H19.out, h3]; rfl) HIS.out is_d7]
                cases e : Op.bytesLess d7 ds
                · rfl
                · exact absurd ⟨h3, e⟩ h2
              have H3 : Hid (n = 19) := h3
              clear h2 h3 hv hcut
              go_wp2
              go_loopw [10, 11] (fun nv i V => ∃ j : Nat, j ≤ n ∧ i = .int .i64 ((a + j : Nat)) ∧ nv = .int .i64 (-((vl 0 (ds.take j) : Nat) : Int)) ∧ V = wr) (fun _ i _ => k - (intOf i).toNat)
              case atStart => exact ⟨0, Nat.zero_le _, rfl, rfl, rfl⟩
              case round =>
                obtain ⟨j, hj, rfl, rfl, hw2⟩ := hrel
                subst hw2
                by_cases hjn : j < n
                · obtain ⟨q, hq⟩ : ∃ q, q = a + j := ⟨_, rfl⟩
                  have hqk : q < k := by have := HN.out; omega
                  have hql : q < l.length := by omega
                  have iq : ∀ W, Sem.run Tryz.prog (Instr.index 9 (.string ⟨l.toArray⟩) (.int .i64 (q : Nat))) W = .ok (.int .u8 (bt l (q))) W := fun W => idx10 l q hql W
                  have h4 := HF4.out j hjn
                  rw [← hq] at h4 ⊢
                  have hdq := HD.out q (by omega) hqk
                  have hv1 := vl_take ds (j + 1)
                  have hV := HV.out
                  have HQ : Hid (q = a + j) := hq
                  obtain ⟨v, hvv⟩ : ∃ v, v = vl 0 (ds.take j) := ⟨_, rfl⟩
                  obtain ⟨v2, hv2⟩ : ∃ v2, v2 = vl 0 (ds.take (j + 1)) := ⟨_, rfl⟩
                  rw [← hv2, ← hvv] at h4
                  rw [← hv2] at hv1
                  rw [← hvv]
                  have HV2 : Hid (v2 = vl 0 (ds.take (j + 1))) := hv2
                  generalize bt l q = c at *
                  have w1 : IntKind.i64.wrap (-(v : Int) * 10) = -(v : Int) * 10 := by rw [IntKind.wrap_i64]; omega
                  have w2 : IntKind.u8.wrap (c - 48) = c - 48 := by unfold IntKind.wrap IntKind.bits IntKind.signed; simp; omega
                  have w3 : IntKind.i64.wrap (c - 48) = c - 48 := by rw [IntKind.wrap_i64]; omega
                  have w4 : IntKind.i64.wrap (-(v : Int) * 10 - (c - 48)) = -(v2 : Int) := by rw [IntKind.wrap_i64]; omega
                  have w5 : IntKind.i64.wrap ((q : Int) + 1) = (q : Int) + 1 := by rw [IntKind.wrap_i64]; omega
                  have tq : (q : Int) < (k : Int) := by omega
                  clear hq hvv hv2 hdq h4 hv1 hV
                  go_wp2
                  go_roundw
                  case rel => exact ⟨j + 1, by omega, by rw [show a + (j + 1) = q + 1 from by have := HQ.out; omega]; go_num, by rw [← HV2.out], by simp⟩
                  case measure => simp [intOf] <;> omega
                · obtain rfl : j = n := by omega
                  have hfk : a + j = k := by have := HN.out; omega
                  rw [hfk, List.take_of_length_le (by rw [H19.out]; exact Nat.le_refl _)]
                  have hV := HV.out
                  have tk : ¬ (k : Int) < (k : Int) := by omega
                  generalize vl 0 ds = v at *
                  have w6 : IntKind.i64.wrap (-(-(v : Int))) = (v : Int) := by rw [IntKind.wrap_i64]; omega
                  clear hfk
                  go_wp2
                  refine bodyPost_ret (v := .tuple #[.int .i64 ((v : Int)), .int .i64 ((k : Nat)), .int .i64 0]) (by simp [results, Tryz.results57]) rfl ?_
                  exact ⟨by rw [HP'.out], Below.refl _ _⟩
            · have t2 : ((n : Int) == 19) = false := by simp; omega
              have t2n : (n == 19) = false := by simp [h3]
              clear h2 hv hcut
              go_wp2
              go_loopw [10, 11] (fun nv i V => ∃ j : Nat, j ≤ n ∧ i = .int .i64 ((a + j : Nat)) ∧ nv = .int .i64 (-((vl 0 (ds.take j) : Nat) : Int)) ∧ V = wr) (fun _ i _ => k - (intOf i).toNat)
              case atStart => exact ⟨0, Nat.zero_le _, rfl, rfl, rfl⟩
              case round =>
                obtain ⟨j, hj, rfl, rfl, hw2⟩ := hrel
                subst hw2
                by_cases hjn : j < n
                · obtain ⟨q, hq⟩ : ∃ q, q = a + j := ⟨_, rfl⟩
                  have hqk : q < k := by have := HN.out; omega
                  have hql : q < l.length := by omega
                  have iq : ∀ W, Sem.run Tryz.prog (Instr.index 9 (.string ⟨l.toArray⟩) (.int .i64 (q : Nat))) W = .ok (.int .u8 (bt l (q))) W := fun W => idx10 l q hql W
                  have h4 := HF4.out j hjn
                  rw [← hq] at h4 ⊢
                  have hdq := HD.out q (by omega) hqk
                  have hv1 := vl_take ds (j + 1)
                  have hV := HV.out
                  have HQ : Hid (q = a + j) := hq
                  obtain ⟨v, hvv⟩ : ∃ v, v = vl 0 (ds.take j) := ⟨_, rfl⟩
                  obtain ⟨v2, hv2⟩ : ∃ v2, v2 = vl 0 (ds.take (j + 1)) := ⟨_, rfl⟩
                  rw [← hv2, ← hvv] at h4
                  rw [← hv2] at hv1
                  rw [← hvv]
                  have HV2 : Hid (v2 = vl 0 (ds.take (j + 1))) := hv2
                  generalize bt l q = c at *
                  have w1 : IntKind.i64.wrap (-(v : Int) * 10) = -(v : Int) * 10 := by rw [IntKind.wrap_i64]; omega
                  have w2 : IntKind.u8.wrap (c - 48) = c - 48 := by unfold IntKind.wrap IntKind.bits IntKind.signed; simp; omega
                  have w3 : IntKind.i64.wrap (c - 48) = c - 48 := by rw [IntKind.wrap_i64]; omega
                  have w4 : IntKind.i64.wrap (-(v : Int) * 10 - (c - 48)) = -(v2 : Int) := by rw [IntKind.wrap_i64]; omega
                  have w5 : IntKind.i64.wrap ((q : Int) + 1) = (q : Int) + 1 := by rw [IntKind.wrap_i64]; omega
                  have tq : (q : Int) < (k : Int) := by omega
                  clear hq hvv hv2 hdq h4 hv1 hV
                  go_wp2
                  go_roundw
                  case rel => exact ⟨j + 1, by omega, by rw [show a + (j + 1) = q + 1 from by have := HQ.out; omega]; go_num, by rw [← HV2.out], by simp⟩
                  case measure => simp [intOf] <;> omega
                · obtain rfl : j = n := by omega
                  have hfk : a + j = k := by have := HN.out; omega
                  rw [hfk, List.take_of_length_le (by rw [H19.out]; exact Nat.le_refl _)]
                  have hV := HV.out
                  have tk : ¬ (k : Int) < (k : Int) := by omega
                  generalize vl 0 ds = v at *
                  have w6 : IntKind.i64.wrap (-(-(v : Int))) = (v : Int) := by rw [IntKind.wrap_i64]; omega
                  clear hfk
                  go_wp2
                  refine bodyPost_ret (v := .tuple #[.int .i64 ((v : Int)), .int .i64 ((k : Nat)), .int .i64 0]) (by simp [results, Tryz.results57]) rfl ?_
                  exact ⟨by rw [HP'.out], Below.refl _ _⟩
      · have tl : decide ((k : Int) < (l.length : Int)) = true := by simp; omega
        have tln : k < l.length := by omega
        have tli : (k : Int) < (l.length : Int) := by omega
        have ik : ∀ W, Sem.run Tryz.prog (Instr.index 9 (.string ⟨l.toArray⟩) (.int .i64 (k : Nat))) W = .ok (.int .u8 (bt l (k))) W := fun W => idx10 l k tln W
        have cD := fun W => digit10_any (bt l k) false W (by have := HS.out; simp; omega)
        generalize bt l k = c' at ik cD
        clear hul2
        by_cases h1 : 19 < n
        · have t1 : decide ((19 : Int) < (n : Int)) = true := by simp; omega
          have t1n : 19 < n := h1
          have t1i : (19 : Int) < (n : Int) := by omega
          go_wp2_with (go_at_call 56; (with_reducible refine (cD _).mono ?_); rintro e w' ⟨rfl, hw'⟩; have hw2' := hw'.symm; subst hw2'; clear hw')
          refine bodyPost_ret (v := .tuple #[.int .i64 (0), .int .i64 ((a : Nat)), .int .i64 30]) (by simp [results, Tryz.results57]) rfl ?_
          refine ⟨?_, Below.refl _ _⟩
          rw [HP.out, if_neg (by have := HBIG.out.1 (.inl h1); omega)]
        · have t1 : decide ((19 : Int) < (n : Int)) = false := by simp; omega
          have t1i : ¬ (19 : Int) < (n : Int) := by omega
          by_cases h2 : n = 19 ∧ Op.bytesLess d7 ds = true
          · have t2 : ((n : Int) == 19) = true := by simp [h2.1]
            have t2n : (n == 19) = true := by simp [h2.1]
            have cg : ∀ W, Sem.run Tryz.prog (binOp .gtr 9 (.string (ByteArray.extract ⟨l.toArray⟩ a k)) (.string ⟨#[57, 50, 50, 51, 51, 55, 50, 48, 51, 54, 56, 53, 52, 55, 55, 53, 56, 48, 55]⟩)) W = .ok (.bool true) W := fun W => by
              rw [hcut, show (⟨#[57, 50, 50, 51, 51, 55, 50, 48, 51, 54, 56, 53, 52, 55, 55, 53, 56, 48, 55]⟩ : ByteArray) = ⟨d7.toArray⟩ from rfl, cmp_digits ds d7 (by rw [H19.out, h2.1]; rfl) HIS.out is_d7, h2.2]
            have HG : Hid (n = 19 ∧ Op.bytesLess d7 ds = true) := h2
            clear h2 hcut
            go_wp2_with (go_at_call 56; (with_reducible refine (cD _).mono ?_); rintro e w' ⟨rfl, hw'⟩; have hw2' := hw'.symm; subst hw2'; clear hw')
            refine bodyPost_ret (v := .tuple #[.int .i64 (0), .int .i64 ((a : Nat)), .int .i64 30]) (by simp [results, Tryz.results57]) rfl ?_
            refine ⟨?_, Below.refl _ _⟩
            rw [HP.out, if_neg (by have := HBIG.out.1 (.inr HG.out); omega)]
          · have hv : vl 0 ds ≤ 9223372036854775807 := by
              rcases Nat.lt_or_ge 9223372036854775807 (vl 0 ds) with c | c
              · rcases HBIG.out.2 c with e | e
                · exact absurd e h1
                · exact absurd e h2
              · exact c
            have HP' : Hid (numS l a k = (((vl 0 ds : Nat) : Int), k, 0)) := by show _ = _; rw [HP.out, if_pos hv]
            have HV : Hid (vl 0 ds ≤ 9223372036854775807) := hv
            by_cases h3 : n = 19
            · have t2 : ((n : Int) == 19) = true := by simp [h3]
              have t2n : (n == 19) = true := by simp [h3]
              have cg : ∀ W, Sem.run Tryz.prog (binOp .gtr 9 (.string (ByteArray.extract ⟨l.toArray⟩ a k)) (.string ⟨#[57, 50, 50, 51, 51, 55, 50, 48, 51, 54, 56, 53, 52, 55, 55, 53, 56, 48, 55]⟩)) W = .ok (.bool false) W := fun W => by
                rw [hcut, show (⟨#[57, 50, 50, 51, 51, 55, 50, 48, 51, 54, 56, 53, 52, 55, 55, 53, 56, 48, 55]⟩ : ByteArray) = ⟨d7.toArray⟩ from rfl, cmp_digits ds d7 (by rw [H19.out, h3]; rfl) HIS.out is_d7]
                cases e : Op.bytesLess d7 ds
                · rfl
                · exact absurd ⟨h3, e⟩ h2
              have H3 : Hid (n = 19) := h3
              clear h2 h3 hv hcut
              go_wp2_with (go_at_call 56; (with_reducible refine (cD _).mono ?_); rintro e w' ⟨rfl, hw'⟩; have hw2' := hw'.symm; subst hw2'; clear hw')
              go_loopw [10, 11] (fun nv i V => ∃ j : Nat, j ≤ n ∧ i = .int .i64 ((a + j : Nat)) ∧ nv = .int .i64 (-((vl 0 (ds.take j) : Nat) : Int)) ∧ V = wr) (fun _ i _ => k - (intOf i).toNat)
              case atStart => exact ⟨0, Nat.zero_le _, rfl, rfl, rfl⟩
              case round =>
                obtain ⟨j, hj, rfl, rfl, hw2⟩ := hrel
                subst hw2
                by_cases hjn : j < n
                · obtain ⟨q, hq⟩ : ∃ q, q = a + j := ⟨_, rfl⟩
                  have hqk : q < k := by have := HN.out; omega
                  have hql : q < l.length := by omega
                  have iq : ∀ W, Sem.run Tryz.prog (Instr.index 9 (.string ⟨l.toArray⟩) (.int .i64 (q : Nat))) W = .ok (.int .u8 (bt l (q))) W := fun W => idx10 l q hql W
                  have h4 := HF4.out j hjn
                  rw [← hq] at h4 ⊢
                  have hdq := HD.out q (by omega) hqk
                  have hv1 := vl_take ds (j + 1)
                  have hV := HV.out
                  have HQ : Hid (q = a + j) := hq
                  obtain ⟨v, hvv⟩ : ∃ v, v = vl 0 (ds.take j) := ⟨_, rfl⟩
                  obtain ⟨v2, hv2⟩ : ∃ v2, v2 = vl 0 (ds.take (j + 1)) := ⟨_, rfl⟩
                  rw [← hv2, ← hvv] at h4
                  rw [← hv2] at hv1
                  rw [← hvv]
                  have HV2 : Hid (v2 = vl 0 (ds.take (j + 1))) := hv2
                  generalize bt l q = c at *
                  have w1 : IntKind.i64.wrap (-(v : Int) * 10) = -(v : Int) * 10 := by rw [IntKind.wrap_i64]; omega
                  have w2 : IntKind.u8.wrap (c - 48) = c - 48 := by unfold IntKind.wrap IntKind.bits IntKind.signed; simp; omega
                  have w3 : IntKind.i64.wrap (c - 48) = c - 48 := by rw [IntKind.wrap_i64]; omega
                  have w4 : IntKind.i64.wrap (-(v : Int) * 10 - (c - 48)) = -(v2 : Int) := by rw [IntKind.wrap_i64]; omega
                  have w5 : IntKind.i64.wrap ((q : Int) + 1) = (q : Int) + 1 := by rw [IntKind.wrap_i64]; omega
                  have tq : (q : Int) < (k : Int) := by omega
                  clear hq hvv hv2 hdq h4 hv1 hV
                  go_wp2
                  go_roundw
                  case rel => exact ⟨j + 1, by omega, by rw [show a + (j + 1) = q + 1 from by have := HQ.out; omega]; go_num, by rw [← HV2.out], by simp⟩
                  case measure => simp [intOf] <;> omega
                · obtain rfl : j = n := by omega
                  have hfk : a + j = k := by have := HN.out; omega
                  rw [hfk, List.take_of_length_le (by rw [H19.out]; exact Nat.le_refl _)]
                  have hV := HV.out
                  have tk : ¬ (k : Int) < (k : Int) := by omega
                  generalize vl 0 ds = v at *
                  have w6 : IntKind.i64.wrap (-(-(v : Int))) = (v : Int) := by rw [IntKind.wrap_i64]; omega
                  clear hfk
                  go_wp2
                  refine bodyPost_ret (v := .tuple #[.int .i64 ((v : Int)), .int .i64 ((k : Nat)), .int .i64 0]) (by simp [results, Tryz.results57]) rfl ?_
                  exact ⟨by rw [HP'.out], Below.refl _ _⟩
            · have t2 : ((n : Int) == 19) = false := by simp; omega
              have t2n : (n == 19) = false := by simp [h3]
              clear h2 hv hcut
              go_wp2_with (go_at_call 56; (with_reducible refine (cD _).mono ?_); rintro e w' ⟨rfl, hw'⟩; have hw2' := hw'.symm; subst hw2'; clear hw')
              go_loopw [10, 11] (fun nv i V => ∃ j : Nat, j ≤ n ∧ i = .int .i64 ((a + j : Nat)) ∧ nv = .int .i64 (-((vl 0 (ds.take j) : Nat) : Int)) ∧ V = wr) (fun _ i _ => k - (intOf i).toNat)
              case atStart => exact ⟨0, Nat.zero_le _, rfl, rfl, rfl⟩
              case round =>
                obtain ⟨j, hj, rfl, rfl, hw2⟩ := hrel
                subst hw2
                by_cases hjn : j < n
                · obtain ⟨q, hq⟩ : ∃ q, q = a + j := ⟨_, rfl⟩
                  have hqk : q < k := by have := HN.out; omega
                  have hql : q < l.length := by omega
                  have iq : ∀ W, Sem.run Tryz.prog (Instr.index 9 (.string ⟨l.toArray⟩) (.int .i64 (q : Nat))) W = .ok (.int .u8 (bt l (q))) W := fun W => idx10 l q hql W
                  have h4 := HF4.out j hjn
                  rw [← hq] at h4 ⊢
                  have hdq := HD.out q (by omega) hqk
                  have hv1 := vl_take ds (j + 1)
                  have hV := HV.out
                  have HQ : Hid (q = a + j) := hq
                  obtain ⟨v, hvv⟩ : ∃ v, v = vl 0 (ds.take j) := ⟨_, rfl⟩
                  obtain ⟨v2, hv2⟩ : ∃ v2, v2 = vl 0 (ds.take (j + 1)) := ⟨_, rfl⟩
                  rw [← hv2, ← hvv] at h4
                  rw [← hv2] at hv1
                  rw [← hvv]
                  have HV2 : Hid (v2 = vl 0 (ds.take (j + 1))) := hv2
                  generalize bt l q = c at *
                  have w1 : IntKind.i64.wrap (-(v : Int) * 10) = -(v : Int) * 10 := by rw [IntKind.wrap_i64]; omega
                  have w2 : IntKind.u8.wrap (c - 48) = c - 48 := by unfold IntKind.wrap IntKind.bits IntKind.signed; simp; omega
                  have w3 : IntKind.i64.wrap (c - 48) = c - 48 := by rw [IntKind.wrap_i64]; omega
                  have w4 : IntKind.i64.wrap (-(v : Int) * 10 - (c - 48)) = -(v2 : Int) := by rw [IntKind.wrap_i64]; omega
                  have w5 : IntKind.i64.wrap ((q : Int) + 1) = (q : Int) + 1 := by rw [IntKind.wrap_i64]; omega
                  have tq : (q : Int) < (k : Int) := by omega
                  clear hq hvv hv2 hdq h4 hv1 hV
                  go_wp2
                  go_roundw
                  case rel => exact ⟨j + 1, by omega, by rw [show a + (j + 1) = q + 1 from by have := HQ.out; omega]; go_num, by rw [← HV2.out], by simp⟩
                  case measure => simp [intOf] <;> omega
                · obtain rfl : j = n := by omega
                  have hfk : a + j = k := by have := HN.out; omega
                  rw [hfk, List.take_of_length_le (by rw [H19.out]; exact Nat.le_refl _)]
                  have hV := HV.out
                  have tk : ¬ (k : Int) < (k : Int) := by omega
                  generalize vl 0 ds = v at *
                  have w6 : IntKind.i64.wrap (-(-(v : Int))) = (v : Int) := by rw [IntKind.wrap_i64]; omega
                  clear hfk
                  go_wp2
                  refine bodyPost_ret (v := .tuple #[.int .i64 ((v : Int)), .int .i64 ((k : Nat)), .int .i64 0]) (by simp [results, Tryz.results57]) rfl ?_
                  exact ⟨by rw [HP'.out], Below.refl _ _⟩
set_option linter.unusedSimpArgs false in
set_option maxHeartbeats 8000000 in
set_option maxRecDepth 100000 in
/-- A number with a sign. -/
theorem scan_neg (l : List UInt8) (a b u : Nat) (w : World) (hl : l.length ≤ 9223372036854775806) (hab : b = a + 1) (h95 : bt l a = 95) (hfu : b < u) (hul : u ≤ l.length) (hd : ∀ i, b ≤ i → i < u → 48 ≤ bt l i ∧ bt l i ≤ 57) (hs : ¬ (48 ≤ bt l u ∧ bt l u ≤ 57)) (h0 : 49 ≤ bt l b) :
    Calls Tryz.prog 57 #[.string ⟨l.toArray⟩, .int .i64 (a : Nat)] w (AnsN w (numS l a u)) := by
  have HD : Hid (∀ i, b ≤ i → i < u → 48 ≤ bt l i ∧ bt l i ≤ 57) := hd
  have H0 : Hid (u = b + 1 ∨ 49 ≤ bt l b) := .inr h0
  have HS : Hid (¬ (48 ≤ bt l u ∧ bt l u ≤ 57)) := hs
  have hal : a < l.length := by omega
  have hbl : b < l.length := by omega
  have hai : (a : Int) < (l.length : Int) := by omega
  have hbi : (b : Int) < (l.length : Int) := by omega
  have i0 : ∀ W, Sem.run Tryz.prog (Instr.index 9 (.string ⟨l.toArray⟩) (.int .i64 (a : Nat))) W = .ok (.int .u8 (bt l (a))) W := fun W => idx10 l a hal W
  rw [h95] at i0
  have i1 : ∀ W, Sem.run Tryz.prog (Instr.index 9 (.string ⟨l.toArray⟩) (.int .i64 (b : Nat))) W = .ok (.int .u8 (bt l (b))) W := fun W => idx10 l b hbl W
  have hb1 := hd b (Nat.le_refl _) hfu
  have te : ((b : Int) == (l.length : Int)) = false := by simp; omega
  have te2 : (b == l.length) = false := by simp; omega
  have t49 : decide (bt l b < 49) = false := by simp; omega
  have t57 : decide (57 < bt l b) = false := by simp; omega
  have wa : IntKind.i64.wrap ((a : Int) + 1) = (b : Int) := by rw [IntKind.wrap_i64]; omega
  have ea : (a : Int) + 1 = (b : Int) := by omega
  have tab : decide ((a : Int) < (b : Int)) = true := by simp; omega
  have tabn : a < b := by omega
  have tabe : ((b : Int) == (a : Int)) = false := by simp; omega
  have tabe2 : (b == a) = false := by simp; omega
  have hpre : ∀ ds n, ds = (l.drop b).take n → n = u - b → pce l a u = 95 :: ds := fun ds n e1 e2 => by
    unfold pce
    have h1 : l[a]'hal = 95 := by
      have := bt_get hal
      rw [h95] at this
      exact byte_eq (n := 95) (by omega)
    rw [show u - a = (u - b) + 1 from by omega, List.drop_eq_getElem_cons hal, List.take_succ_cons, h1, e1, e2, hab]
  generalize bt l b = c1 at i1 t49 t57
  have HAB : Hid (b = a + 1) := hab
  clear hd h0 hs hb1 hab h95
  go_enter Tryz.func57, Tryz.ntmps57
  go_wp2
  go_loopw [1] (fun i V => ∃ k : Nat, b ≤ k ∧ k ≤ u ∧ i = .int .i64 (k : Nat) ∧ V = w) (fun i _ => u - (intOf i).toNat)
  case atStart => exact ⟨b, Nat.le_refl _, Nat.le_of_lt hfu, rfl, rfl⟩
  case round =>
    obtain ⟨k, hk1, hk2, rfl, hw⟩ := hrel
    subst hw
    clear i0 i1 t49 t57 wa ea
    by_cases hlt : k < u
    · have hkl : k < l.length := by omega
      have hki : (k : Int) < (l.length : Int) := by omega
      have ik : ∀ W, Sem.run Tryz.prog (Instr.index 9 (.string ⟨l.toArray⟩) (.int .i64 (k : Nat))) W = .ok (.int .u8 (bt l (k))) W := fun W => idx10 l k hkl W
      have hdk := HD.out k hk1 hlt
      have cD := fun W => digit10_any (bt l k) true W (by simp [hdk])
      have wk : IntKind.i64.wrap ((k : Int) + 1) = ((k : Int) + 1) := by rw [IntKind.wrap_i64]; omega
      by_cases hkf : k = b
      · have tn : decide (((b : Nat) : Int) < (k : Int)) = false := by simp; omega
        have tnn : ¬ b < k := by omega
        have HK : Hid (k = b) := hkf
        generalize bt l k = c at ik cD
        clear hdk hkf
        go_wp2_with (go_at_call 56; (with_reducible refine (cD _).mono ?_); rintro e w' ⟨rfl, hw'⟩; have hw2' := hw'.symm; subst hw2'; clear hw')
        go_roundw
        case rel => exact ⟨k + 1, by omega, by omega, by go_num, by simp⟩
        case measure => simp [intOf] <;> omega
      · have tk : ((b : Nat) : Int) < (k : Int) := by omega
        have tkn : b < k := by omega
        have h49 : 49 ≤ bt l b := H0.out.resolve_left (by omega)
        have t48 : (bt l b == 48) = false := by simp; omega
        have jf : ∀ W, Sem.run Tryz.prog (Instr.index 9 (.string ⟨l.toArray⟩) (.int .i64 (b : Nat))) W = .ok (.int .u8 (bt l (b))) W := fun W => idx10 l b (by omega) W
        generalize bt l b = c0 at jf t48 h49
        generalize bt l k = c at ik cD
        clear hdk hkf
        go_wp2_with (go_at_call 56; (with_reducible refine (cD _).mono ?_); rintro e w' ⟨rfl, hw'⟩; have hw2' := hw'.symm; subst hw2'; clear hw')
        go_roundw
        case rel => exact ⟨k + 1, by omega, by omega, by go_num, by simp⟩
        case measure => simp [intOf] <;> omega
    · obtain rfl : k = u := by omega
      obtain ⟨n, hn⟩ : ∃ n, n = k - b := ⟨_, rfl⟩
      obtain ⟨fl1, fl2, fl3, fl4, c, r, fl5⟩ := ds_facts l b k hfu hul HD.out H0.out
      rw [← hn] at fl1 fl2 fl3 fl4 fl5
      have hcut := bs_cut l b k
      rw [← hn] at hcut
      obtain ⟨ds, hds⟩ : ∃ ds, ds = (l.drop b).take n := ⟨_, rfl⟩
      rw [← hds] at fl1 fl2 fl3 fl4 fl5 hcut
      have HDS : Hid (ds = (l.drop b).take n) := hds
      have wn : IntKind.i64.wrap ((k : Int) - ((b : Nat) : Int)) = (n : Int) := by rw [IntKind.wrap_i64]; omega
      have en : (k : Int) - ((b : Nat) : Int) = (n : Int) := by omega
      have HN : Hid (n = k - b) := hn
      have hbig := big_iff ds d8 rfl is_d8 (by rw [vl_d8]; decide) fl2 fl3
      rw [fl1, vl_d8] at hbig
      have HBIG : Hid ((19 < n ∨ n = 19 ∧ Op.bytesLess d8 ds = true) ↔ 9223372036854775808 < vl 0 ds) := hbig
      have HP : Hid (numS l a k = if vl 0 ds ≤ 9223372036854775808 then (-((vl 0 ds : Nat) : Int), k, 0) else (0, a, 30)) := by
        show _ = _
        unfold numS
        rw [show pce l a k = 95 :: ds from hpre ds n HDS.out HN.out, fl5, parse_neg c r (by rw [← fl5]; exact fl2)]
        by_cases hv : vl 0 (c :: r) ≤ 9223372036854775808
        · rw [if_pos hv, if_pos hv]
        · rw [if_neg hv, if_neg hv]
      have HF4 : Hid (∀ j, j < n → vl 0 (ds.take (j + 1)) = vl 0 (ds.take j) * 10 + (bt l (b + j) - 48).toNat) := fl4
      have hn1 : 1 ≤ n := by omega
      have hnl : n ≤ 9223372036854775806 := by omega
      have H19 : Hid (ds.length = n) := fl1
      have HIS : Hid (∀ b ∈ ds, isD b = true) := fl2
      clear hds hn fl1 fl2 fl3 fl4 fl5 hbig
      by_cases hul2 : k = l.length
      · have tl : decide ((k : Int) < (l.length : Int)) = false := by simp; omega
        have tln : ¬ k < l.length := by omega
        have HUL : Hid (k = l.length) := hul2
        clear hul2
        by_cases h1 : 19 < n
        · have t1 : decide ((19 : Int) < (n : Int)) = true := by simp; omega
          have t1n : 19 < n := h1
          have t1i : (19 : Int) < (n : Int) := by omega
          go_wp2
          refine bodyPost_ret (v := .tuple #[.int .i64 (0), .int .i64 ((a : Nat)), .int .i64 30]) (by simp [results, Tryz.results57]) rfl ?_
          refine ⟨?_, Below.refl _ _⟩
          rw [HP.out, if_neg (by have := HBIG.out.1 (.inl h1); omega)]
        · have t1 : decide ((19 : Int) < (n : Int)) = false := by simp; omega
          have t1i : ¬ (19 : Int) < (n : Int) := by omega
          by_cases h2 : n = 19 ∧ Op.bytesLess d8 ds = true
          · have t2 : ((n : Int) == 19) = true := by simp [h2.1]
            have t2n : (n == 19) = true := by simp [h2.1]
            have cg : ∀ W, Sem.run Tryz.prog (binOp .gtr 9 (.string (ByteArray.extract ⟨l.toArray⟩ b k)) (.string ⟨#[57, 50, 50, 51, 51, 55, 50, 48, 51, 54, 56, 53, 52, 55, 55, 53, 56, 48, 56]⟩)) W = .ok (.bool true) W := fun W => by
              rw [hcut, show (⟨#[57, 50, 50, 51, 51, 55, 50, 48, 51, 54, 56, 53, 52, 55, 55, 53, 56, 48, 56]⟩ : ByteArray) = ⟨d8.toArray⟩ from rfl, cmp_digits ds d8 (by rw [H19.out, h2.1]; rfl) HIS.out is_d8, h2.2]
            have HG : Hid (n = 19 ∧ Op.bytesLess d8 ds = true) := h2
            clear h2 hcut
            go_wp2
            refine bodyPost_ret (v := .tuple #[.int .i64 (0), .int .i64 ((a : Nat)), .int .i64 30]) (by simp [results, Tryz.results57]) rfl ?_
            refine ⟨?_, Below.refl _ _⟩
            rw [HP.out, if_neg (by have := HBIG.out.1 (.inr HG.out); omega)]
          · have hv : vl 0 ds ≤ 9223372036854775808 := by
              rcases Nat.lt_or_ge 9223372036854775808 (vl 0 ds) with c | c
              · rcases HBIG.out.2 c with e | e
                · exact absurd e h1
                · exact absurd e h2
              · exact c
            have HP' : Hid (numS l a k = (-((vl 0 ds : Nat) : Int), k, 0)) := by show _ = _; rw [HP.out, if_pos hv]
            have HV : Hid (vl 0 ds ≤ 9223372036854775808) := hv
            by_cases h3 : n = 19
            · have t2 : ((n : Int) == 19) = true := by simp [h3]
              have t2n : (n == 19) = true := by simp [h3]
              have cg : ∀ W, Sem.run Tryz.prog (binOp .gtr 9 (.string (ByteArray.extract ⟨l.toArray⟩ b k)) (.string ⟨#[57, 50, 50, 51, 51, 55, 50, 48, 51, 54, 56, 53, 52, 55, 55, 53, 56, 48, 56]⟩)) W = .ok (.bool false) W := fun W => by
                rw [hcut, show (⟨#[57, 50, 50, 51, 51, 55, 50, 48, 51, 54, 56, 53, 52, 55, 55, 53, 56, 48, 56]⟩ : ByteArray) = ⟨d8.toArray⟩ from rfl, cmp_digits ds d8 (by rw [H19.out, h3]; rfl) HIS.out is_d8]
                cases e : Op.bytesLess d8 ds
                · rfl
                · exact absurd ⟨h3, e⟩ h2
              have H3 : Hid (n = 19) := h3
              clear h2 h3 hv hcut
              go_wp2
              go_loopw [10, 11] (fun nv i V => ∃ j : Nat, j ≤ n ∧ i = .int .i64 ((b + j : Nat)) ∧ nv = .int .i64 (-((vl 0 (ds.take j) : Nat) : Int)) ∧ V = wr) (fun _ i _ => k - (intOf i).toNat)
              case atStart => exact ⟨0, Nat.zero_le _, rfl, rfl, rfl⟩
              case round =>
                obtain ⟨j, hj, rfl, rfl, hw2⟩ := hrel
                subst hw2
                by_cases hjn : j < n
                · obtain ⟨q, hq⟩ : ∃ q, q = b + j := ⟨_, rfl⟩
                  have hqk : q < k := by have := HN.out; omega
                  have hql : q < l.length := by omega
                  have iq : ∀ W, Sem.run Tryz.prog (Instr.index 9 (.string ⟨l.toArray⟩) (.int .i64 (q : Nat))) W = .ok (.int .u8 (bt l (q))) W := fun W => idx10 l q hql W
                  have h4 := HF4.out j hjn
                  rw [← hq] at h4 ⊢
                  have hdq := HD.out q (by omega) hqk
                  have hv1 := vl_take ds (j + 1)
                  have hV := HV.out
                  have HQ : Hid (q = b + j) := hq
                  obtain ⟨v, hvv⟩ : ∃ v, v = vl 0 (ds.take j) := ⟨_, rfl⟩
                  obtain ⟨v2, hv2⟩ : ∃ v2, v2 = vl 0 (ds.take (j + 1)) := ⟨_, rfl⟩
                  rw [← hv2, ← hvv] at h4
                  rw [← hv2] at hv1
                  rw [← hvv]
                  have HV2 : Hid (v2 = vl 0 (ds.take (j + 1))) := hv2
                  generalize bt l q = c at *
                  have w1 : IntKind.i64.wrap (-(v : Int) * 10) = -(v : Int) * 10 := by rw [IntKind.wrap_i64]; omega
                  have w2 : IntKind.u8.wrap (c - 48) = c - 48 := by unfold IntKind.wrap IntKind.bits IntKind.signed; simp; omega
                  have w3 : IntKind.i64.wrap (c - 48) = c - 48 := by rw [IntKind.wrap_i64]; omega
                  have w4 : IntKind.i64.wrap (-(v : Int) * 10 - (c - 48)) = -(v2 : Int) := by rw [IntKind.wrap_i64]; omega
                  have w5 : IntKind.i64.wrap ((q : Int) + 1) = (q : Int) + 1 := by rw [IntKind.wrap_i64]; omega
                  have tq : (q : Int) < (k : Int) := by omega
                  clear hq hvv hv2 hdq h4 hv1 hV
                  go_wp2
                  go_roundw
                  case rel => exact ⟨j + 1, by omega, by rw [show b + (j + 1) = q + 1 from by have := HQ.out; omega]; go_num, by rw [← HV2.out], by simp⟩
                  case measure => simp [intOf] <;> omega
                · obtain rfl : j = n := by omega
                  have hfk : b + j = k := by have := HN.out; omega
                  rw [hfk, List.take_of_length_le (by rw [H19.out]; exact Nat.le_refl _)]
                  have hV := HV.out
                  have tk : ¬ (k : Int) < (k : Int) := by omega
                  generalize vl 0 ds = v at *

                  clear hfk
                  go_wp2
                  refine bodyPost_ret (v := .tuple #[.int .i64 (-(v : Int)), .int .i64 ((k : Nat)), .int .i64 0]) (by simp [results, Tryz.results57]) rfl ?_
                  exact ⟨by rw [HP'.out], Below.refl _ _⟩
            · have t2 : ((n : Int) == 19) = false := by simp; omega
              have t2n : (n == 19) = false := by simp [h3]
              clear h2 hv hcut
              go_wp2
              go_loopw [10, 11] (fun nv i V => ∃ j : Nat, j ≤ n ∧ i = .int .i64 ((b + j : Nat)) ∧ nv = .int .i64 (-((vl 0 (ds.take j) : Nat) : Int)) ∧ V = wr) (fun _ i _ => k - (intOf i).toNat)
              case atStart => exact ⟨0, Nat.zero_le _, rfl, rfl, rfl⟩
              case round =>
                obtain ⟨j, hj, rfl, rfl, hw2⟩ := hrel
                subst hw2
                by_cases hjn : j < n
                · obtain ⟨q, hq⟩ : ∃ q, q = b + j := ⟨_, rfl⟩
                  have hqk : q < k := by have := HN.out; omega
                  have hql : q < l.length := by omega
                  have iq : ∀ W, Sem.run Tryz.prog (Instr.index 9 (.string ⟨l.toArray⟩) (.int .i64 (q : Nat))) W = .ok (.int .u8 (bt l (q))) W := fun W => idx10 l q hql W
                  have h4 := HF4.out j hjn
                  rw [← hq] at h4 ⊢
                  have hdq := HD.out q (by omega) hqk
                  have hv1 := vl_take ds (j + 1)
                  have hV := HV.out
                  have HQ : Hid (q = b + j) := hq
                  obtain ⟨v, hvv⟩ : ∃ v, v = vl 0 (ds.take j) := ⟨_, rfl⟩
                  obtain ⟨v2, hv2⟩ : ∃ v2, v2 = vl 0 (ds.take (j + 1)) := ⟨_, rfl⟩
                  rw [← hv2, ← hvv] at h4
                  rw [← hv2] at hv1
                  rw [← hvv]
                  have HV2 : Hid (v2 = vl 0 (ds.take (j + 1))) := hv2
                  generalize bt l q = c at *
                  have w1 : IntKind.i64.wrap (-(v : Int) * 10) = -(v : Int) * 10 := by rw [IntKind.wrap_i64]; omega
                  have w2 : IntKind.u8.wrap (c - 48) = c - 48 := by unfold IntKind.wrap IntKind.bits IntKind.signed; simp; omega
                  have w3 : IntKind.i64.wrap (c - 48) = c - 48 := by rw [IntKind.wrap_i64]; omega
                  have w4 : IntKind.i64.wrap (-(v : Int) * 10 - (c - 48)) = -(v2 : Int) := by rw [IntKind.wrap_i64]; omega
                  have w5 : IntKind.i64.wrap ((q : Int) + 1) = (q : Int) + 1 := by rw [IntKind.wrap_i64]; omega
                  have tq : (q : Int) < (k : Int) := by omega
                  clear hq hvv hv2 hdq h4 hv1 hV
                  go_wp2
                  go_roundw
                  case rel => exact ⟨j + 1, by omega, by rw [show b + (j + 1) = q + 1 from by have := HQ.out; omega]; go_num, by rw [← HV2.out], by simp⟩
                  case measure => simp [intOf] <;> omega
                · obtain rfl : j = n := by omega
                  have hfk : b + j = k := by have := HN.out; omega
                  rw [hfk, List.take_of_length_le (by rw [H19.out]; exact Nat.le_refl _)]
                  have hV := HV.out
                  have tk : ¬ (k : Int) < (k : Int) := by omega
                  generalize vl 0 ds = v at *

                  clear hfk
                  go_wp2
                  refine bodyPost_ret (v := .tuple #[.int .i64 (-(v : Int)), .int .i64 ((k : Nat)), .int .i64 0]) (by simp [results, Tryz.results57]) rfl ?_
                  exact ⟨by rw [HP'.out], Below.refl _ _⟩
      · have tl : decide ((k : Int) < (l.length : Int)) = true := by simp; omega
        have tln : k < l.length := by omega
        have tli : (k : Int) < (l.length : Int) := by omega
        have ik : ∀ W, Sem.run Tryz.prog (Instr.index 9 (.string ⟨l.toArray⟩) (.int .i64 (k : Nat))) W = .ok (.int .u8 (bt l (k))) W := fun W => idx10 l k tln W
        have cD := fun W => digit10_any (bt l k) false W (by have := HS.out; simp; omega)
        generalize bt l k = c' at ik cD
        clear hul2
        by_cases h1 : 19 < n
        · have t1 : decide ((19 : Int) < (n : Int)) = true := by simp; omega
          have t1n : 19 < n := h1
          have t1i : (19 : Int) < (n : Int) := by omega
          go_wp2_with (go_at_call 56; (with_reducible refine (cD _).mono ?_); rintro e w' ⟨rfl, hw'⟩; have hw2' := hw'.symm; subst hw2'; clear hw')
          refine bodyPost_ret (v := .tuple #[.int .i64 (0), .int .i64 ((a : Nat)), .int .i64 30]) (by simp [results, Tryz.results57]) rfl ?_
          refine ⟨?_, Below.refl _ _⟩
          rw [HP.out, if_neg (by have := HBIG.out.1 (.inl h1); omega)]
        · have t1 : decide ((19 : Int) < (n : Int)) = false := by simp; omega
          have t1i : ¬ (19 : Int) < (n : Int) := by omega
          by_cases h2 : n = 19 ∧ Op.bytesLess d8 ds = true
          · have t2 : ((n : Int) == 19) = true := by simp [h2.1]
            have t2n : (n == 19) = true := by simp [h2.1]
            have cg : ∀ W, Sem.run Tryz.prog (binOp .gtr 9 (.string (ByteArray.extract ⟨l.toArray⟩ b k)) (.string ⟨#[57, 50, 50, 51, 51, 55, 50, 48, 51, 54, 56, 53, 52, 55, 55, 53, 56, 48, 56]⟩)) W = .ok (.bool true) W := fun W => by
              rw [hcut, show (⟨#[57, 50, 50, 51, 51, 55, 50, 48, 51, 54, 56, 53, 52, 55, 55, 53, 56, 48, 56]⟩ : ByteArray) = ⟨d8.toArray⟩ from rfl, cmp_digits ds d8 (by rw [H19.out, h2.1]; rfl) HIS.out is_d8, h2.2]
            have HG : Hid (n = 19 ∧ Op.bytesLess d8 ds = true) := h2
            clear h2 hcut
            go_wp2_with (go_at_call 56; (with_reducible refine (cD _).mono ?_); rintro e w' ⟨rfl, hw'⟩; have hw2' := hw'.symm; subst hw2'; clear hw')
            refine bodyPost_ret (v := .tuple #[.int .i64 (0), .int .i64 ((a : Nat)), .int .i64 30]) (by simp [results, Tryz.results57]) rfl ?_
            refine ⟨?_, Below.refl _ _⟩
            rw [HP.out, if_neg (by have := HBIG.out.1 (.inr HG.out); omega)]
          · have hv : vl 0 ds ≤ 9223372036854775808 := by
              rcases Nat.lt_or_ge 9223372036854775808 (vl 0 ds) with c | c
              · rcases HBIG.out.2 c with e | e
                · exact absurd e h1
                · exact absurd e h2
              · exact c
            have HP' : Hid (numS l a k = (-((vl 0 ds : Nat) : Int), k, 0)) := by show _ = _; rw [HP.out, if_pos hv]
            have HV : Hid (vl 0 ds ≤ 9223372036854775808) := hv
            by_cases h3 : n = 19
            · have t2 : ((n : Int) == 19) = true := by simp [h3]
              have t2n : (n == 19) = true := by simp [h3]
              have cg : ∀ W, Sem.run Tryz.prog (binOp .gtr 9 (.string (ByteArray.extract ⟨l.toArray⟩ b k)) (.string ⟨#[57, 50, 50, 51, 51, 55, 50, 48, 51, 54, 56, 53, 52, 55, 55, 53, 56, 48, 56]⟩)) W = .ok (.bool false) W := fun W => by
                rw [hcut, show (⟨#[57, 50, 50, 51, 51, 55, 50, 48, 51, 54, 56, 53, 52, 55, 55, 53, 56, 48, 56]⟩ : ByteArray) = ⟨d8.toArray⟩ from rfl, cmp_digits ds d8 (by rw [H19.out, h3]; rfl) HIS.out is_d8]
                cases e : Op.bytesLess d8 ds
                · rfl
                · exact absurd ⟨h3, e⟩ h2
              have H3 : Hid (n = 19) := h3
              clear h2 h3 hv hcut
              go_wp2_with (go_at_call 56; (with_reducible refine (cD _).mono ?_); rintro e w' ⟨rfl, hw'⟩; have hw2' := hw'.symm; subst hw2'; clear hw')
              go_loopw [10, 11] (fun nv i V => ∃ j : Nat, j ≤ n ∧ i = .int .i64 ((b + j : Nat)) ∧ nv = .int .i64 (-((vl 0 (ds.take j) : Nat) : Int)) ∧ V = wr) (fun _ i _ => k - (intOf i).toNat)
              case atStart => exact ⟨0, Nat.zero_le _, rfl, rfl, rfl⟩
              case round =>
                obtain ⟨j, hj, rfl, rfl, hw2⟩ := hrel
                subst hw2
                by_cases hjn : j < n
                · obtain ⟨q, hq⟩ : ∃ q, q = b + j := ⟨_, rfl⟩
                  have hqk : q < k := by have := HN.out; omega
                  have hql : q < l.length := by omega
                  have iq : ∀ W, Sem.run Tryz.prog (Instr.index 9 (.string ⟨l.toArray⟩) (.int .i64 (q : Nat))) W = .ok (.int .u8 (bt l (q))) W := fun W => idx10 l q hql W
                  have h4 := HF4.out j hjn
                  rw [← hq] at h4 ⊢
                  have hdq := HD.out q (by omega) hqk
                  have hv1 := vl_take ds (j + 1)
                  have hV := HV.out
                  have HQ : Hid (q = b + j) := hq
                  obtain ⟨v, hvv⟩ : ∃ v, v = vl 0 (ds.take j) := ⟨_, rfl⟩
                  obtain ⟨v2, hv2⟩ : ∃ v2, v2 = vl 0 (ds.take (j + 1)) := ⟨_, rfl⟩
                  rw [← hv2, ← hvv] at h4
                  rw [← hv2] at hv1
                  rw [← hvv]
                  have HV2 : Hid (v2 = vl 0 (ds.take (j + 1))) := hv2
                  generalize bt l q = c at *
                  have w1 : IntKind.i64.wrap (-(v : Int) * 10) = -(v : Int) * 10 := by rw [IntKind.wrap_i64]; omega
                  have w2 : IntKind.u8.wrap (c - 48) = c - 48 := by unfold IntKind.wrap IntKind.bits IntKind.signed; simp; omega
                  have w3 : IntKind.i64.wrap (c - 48) = c - 48 := by rw [IntKind.wrap_i64]; omega
                  have w4 : IntKind.i64.wrap (-(v : Int) * 10 - (c - 48)) = -(v2 : Int) := by rw [IntKind.wrap_i64]; omega
                  have w5 : IntKind.i64.wrap ((q : Int) + 1) = (q : Int) + 1 := by rw [IntKind.wrap_i64]; omega
                  have tq : (q : Int) < (k : Int) := by omega
                  clear hq hvv hv2 hdq h4 hv1 hV
                  go_wp2
                  go_roundw
                  case rel => exact ⟨j + 1, by omega, by rw [show b + (j + 1) = q + 1 from by have := HQ.out; omega]; go_num, by rw [← HV2.out], by simp⟩
                  case measure => simp [intOf] <;> omega
                · obtain rfl : j = n := by omega
                  have hfk : b + j = k := by have := HN.out; omega
                  rw [hfk, List.take_of_length_le (by rw [H19.out]; exact Nat.le_refl _)]
                  have hV := HV.out
                  have tk : ¬ (k : Int) < (k : Int) := by omega
                  generalize vl 0 ds = v at *

                  clear hfk
                  go_wp2
                  refine bodyPost_ret (v := .tuple #[.int .i64 (-(v : Int)), .int .i64 ((k : Nat)), .int .i64 0]) (by simp [results, Tryz.results57]) rfl ?_
                  exact ⟨by rw [HP'.out], Below.refl _ _⟩
            · have t2 : ((n : Int) == 19) = false := by simp; omega
              have t2n : (n == 19) = false := by simp [h3]
              clear h2 hv hcut
              go_wp2_with (go_at_call 56; (with_reducible refine (cD _).mono ?_); rintro e w' ⟨rfl, hw'⟩; have hw2' := hw'.symm; subst hw2'; clear hw')
              go_loopw [10, 11] (fun nv i V => ∃ j : Nat, j ≤ n ∧ i = .int .i64 ((b + j : Nat)) ∧ nv = .int .i64 (-((vl 0 (ds.take j) : Nat) : Int)) ∧ V = wr) (fun _ i _ => k - (intOf i).toNat)
              case atStart => exact ⟨0, Nat.zero_le _, rfl, rfl, rfl⟩
              case round =>
                obtain ⟨j, hj, rfl, rfl, hw2⟩ := hrel
                subst hw2
                by_cases hjn : j < n
                · obtain ⟨q, hq⟩ : ∃ q, q = b + j := ⟨_, rfl⟩
                  have hqk : q < k := by have := HN.out; omega
                  have hql : q < l.length := by omega
                  have iq : ∀ W, Sem.run Tryz.prog (Instr.index 9 (.string ⟨l.toArray⟩) (.int .i64 (q : Nat))) W = .ok (.int .u8 (bt l (q))) W := fun W => idx10 l q hql W
                  have h4 := HF4.out j hjn
                  rw [← hq] at h4 ⊢
                  have hdq := HD.out q (by omega) hqk
                  have hv1 := vl_take ds (j + 1)
                  have hV := HV.out
                  have HQ : Hid (q = b + j) := hq
                  obtain ⟨v, hvv⟩ : ∃ v, v = vl 0 (ds.take j) := ⟨_, rfl⟩
                  obtain ⟨v2, hv2⟩ : ∃ v2, v2 = vl 0 (ds.take (j + 1)) := ⟨_, rfl⟩
                  rw [← hv2, ← hvv] at h4
                  rw [← hv2] at hv1
                  rw [← hvv]
                  have HV2 : Hid (v2 = vl 0 (ds.take (j + 1))) := hv2
                  generalize bt l q = c at *
                  have w1 : IntKind.i64.wrap (-(v : Int) * 10) = -(v : Int) * 10 := by rw [IntKind.wrap_i64]; omega
                  have w2 : IntKind.u8.wrap (c - 48) = c - 48 := by unfold IntKind.wrap IntKind.bits IntKind.signed; simp; omega
                  have w3 : IntKind.i64.wrap (c - 48) = c - 48 := by rw [IntKind.wrap_i64]; omega
                  have w4 : IntKind.i64.wrap (-(v : Int) * 10 - (c - 48)) = -(v2 : Int) := by rw [IntKind.wrap_i64]; omega
                  have w5 : IntKind.i64.wrap ((q : Int) + 1) = (q : Int) + 1 := by rw [IntKind.wrap_i64]; omega
                  have tq : (q : Int) < (k : Int) := by omega
                  clear hq hvv hv2 hdq h4 hv1 hV
                  go_wp2
                  go_roundw
                  case rel => exact ⟨j + 1, by omega, by rw [show b + (j + 1) = q + 1 from by have := HQ.out; omega]; go_num, by rw [← HV2.out], by simp⟩
                  case measure => simp [intOf] <;> omega
                · obtain rfl : j = n := by omega
                  have hfk : b + j = k := by have := HN.out; omega
                  rw [hfk, List.take_of_length_le (by rw [H19.out]; exact Nat.le_refl _)]
                  have hV := HV.out
                  have tk : ¬ (k : Int) < (k : Int) := by omega
                  generalize vl 0 ds = v at *

                  clear hfk
                  go_wp2
                  refine bodyPost_ret (v := .tuple #[.int .i64 (-(v : Int)), .int .i64 ((k : Nat)), .int .i64 0]) (by simp [results, Tryz.results57]) rfl ?_
                  exact ⟨by rw [HP'.out], Below.refl _ _⟩
/-- A number is told. -/
theorem scanned_any (l : List UInt8) (a : Nat) (w : World) (hl : l.length ≤ 9223372036854775806) (ha : a < l.length) (hc : bt l a = 95 ∨ (48 ≤ bt l a ∧ bt l a ≤ 57)) :
    Calls Tryz.prog 57 #[.string ⟨l.toArray⟩, .int .i64 (a : Nat)] w (AnsN w (scS l a)) := by
  have dig : ∀ f, f ≤ l.length → (∀ i, f ≤ i → i < f + dgs l f → 48 ≤ bt l i ∧ bt l i ≤ 57) ∧ ¬ (48 ≤ bt l (f + dgs l f) ∧ bt l (f + dgs l f) ≤ 57) := by
    have h : ∀ n f, l.length - f = n → f ≤ l.length → (∀ i, f ≤ i → i < f + dgs l f → 48 ≤ bt l i ∧ bt l i ≤ 57) ∧ ¬ (48 ≤ bt l (f + dgs l f) ∧ bt l (f + dgs l f) ≤ 57) := by
      intro n
      induction n with
      | zero =>
        intro f hn hf
        have hb : bt l f = -1 := bt_none (by omega)
        have hg : dgs l f = 0 := dgs_none (by rw [hb]; omega)
        rw [hg]
        exact ⟨fun i h1 h2 => by omega, by rw [Nat.add_zero, hb]; omega⟩
      | succ n ih =>
        intro f hn hf
        by_cases hd : 48 ≤ bt l f ∧ bt l f ≤ 57
        · have hg := dgs_some hd
          obtain ⟨h1, h2⟩ := ih (f + 1) (by omega) (by omega)
          rw [hg, show f + (1 + dgs l (f + 1)) = f + 1 + dgs l (f + 1) from by omega]
          refine ⟨fun i hi hlt => ?_, h2⟩
          by_cases e : i = f
          · subst e; exact hd
          · exact h1 i (by omega) hlt
        · have hg := dgs_none hd
          rw [hg]
          exact ⟨fun i h1 h2 => by omega, by rw [Nat.add_zero]; exact hd⟩
    exact fun f => h _ f rfl
  unfold scS
  by_cases h95 : bt l a = 95
  · rw [if_pos h95]
    by_cases hn : 49 ≤ bt l (a + 1) ∧ bt l (a + 1) ≤ 57
    · rw [if_pos hn]
      have hal : a + 1 < l.length := by
        rcases Nat.lt_or_ge (a + 1) l.length with h | h
        · exact h
        · rw [bt_none h] at hn; omega
      have hg := dgs_some (l := l) (i := a + 1) (by omega)
      obtain ⟨d1, d2⟩ := dig (a + 1) (by omega)
      have hle := dgs_le l (a + 1) (by omega)
      rw [hg, show a + 1 + (1 + dgs l (a + 1 + 1)) = a + 2 + dgs l (a + 2) from by show _ = a + 2 + dgs l (a + 1 + 1); omega] at d1 d2 hle
      exact scan_neg l a (a + 1) _ w hl rfl h95 (by omega) hle d1 d2 hn.1
    · rw [if_neg hn]
      exact scan_sign l a w hl ha h95 hn
  · rw [if_neg h95]
    have hd := hc.resolve_left h95
    by_cases h48 : bt l a = 48 ∧ 48 ≤ bt l (a + 1) ∧ bt l (a + 1) ≤ 57
    · rw [if_pos h48]
      exact scan_zero l a w hl ha h48.1 h48.2
    · rw [if_neg h48]
      have hg := dgs_some hd
      obtain ⟨d1, d2⟩ := dig a (by omega)
      have hle := dgs_le l a (by omega)
      rw [hg, show a + (1 + dgs l (a + 1)) = a + 1 + dgs l (a + 1) from by omega] at d1 d2 hle
      refine scan_pos l a _ w hl (by omega) hle d1 d2 ?_
      by_cases h0 : bt l a = 48
      · left
        have : dgs l (a + 1) = 0 := dgs_none (fun e => h48 ⟨h0, e⟩)
        omega
      · right; omega
end Go.Proofs.YtppcfpiihkaopaaGreatDoor
