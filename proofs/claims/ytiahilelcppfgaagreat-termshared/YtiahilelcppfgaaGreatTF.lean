
/- Package term: what is asked of all kids. -/

import Derived.Test.YtiahilelcppfgaaGreatTE

namespace Go.Proofs.YtiahilelcppfgaaGreat

open Go.RowKit

set_option linter.unusedVariables false

/-- A list of terms, of which kinds and texts are known. -/
structure Kf (W : World) (ko : Option Addr) (n : Nat) (g : Nat → Int × ByteArray) : Prop where
  room : n * 104 ≤ 140737488351232
  cells : 0 < n → ∃ b off, ko = some ⟨b, off, none⟩ ∧ b < W.heap.size ∧ ∀ i, i < n → ∃ (m : Int) (so : Option Addr) (sn sc : Nat) (ao : Option Addr) (an ac : Nat) (uo : Option Addr) (un uc : Nat), W.cell? ⟨b, off + i * 6, none⟩ = some (.int .i64 (g i).1) ∧ W.cell? ⟨b, off + i * 6 + 1, none⟩ = some (.string (g i).2) ∧ W.cell? ⟨b, off + i * 6 + 2, none⟩ = some (.int .i64 m) ∧ W.cell? ⟨b, off + i * 6 + 3, none⟩ = some (.slice so sn sc) ∧ W.cell? ⟨b, off + i * 6 + 4, none⟩ = some (.slice ao an ac) ∧ W.cell? ⟨b, off + i * 6 + 5, none⟩ = some (.slice uo un uc)
theorem Kf.below {B : Nat} {W V : World} {ko : Option Addr} {n : Nat} {g : Nat → Int × ByteArray} (h : Kf W ko n g) (hb : Below B W V) (hB : W.heap.size ≤ B) : Kf V ko n g := by
  refine ⟨h.room, fun h0 => ?_⟩
  obtain ⟨b, off, e, hl, hc⟩ := h.cells h0
  refine ⟨b, off, e, Nat.lt_of_lt_of_le hl hb.size, fun i hi => ?_⟩
  obtain ⟨m, so, sn, sc, ao, an, ac, uo, un, uc, h0, h1, h2, h3, h4, h5⟩ := hc i hi
  have hlt := Nat.lt_of_lt_of_le hl hB
  exact ⟨m, so, sn, sc, ao, an, ac, uo, un, uc, (hb.cell (p := ⟨b, off + i * 6, none⟩) hlt).trans h0, (hb.cell (p := ⟨b, off + i * 6 + 1, none⟩) hlt).trans h1, (hb.cell (p := ⟨b, off + i * 6 + 2, none⟩) hlt).trans h2, (hb.cell (p := ⟨b, off + i * 6 + 3, none⟩) hlt).trans h3, (hb.cell (p := ⟨b, off + i * 6 + 4, none⟩) hlt).trans h4, (hb.cell (p := ⟨b, off + i * 6 + 5, none⟩) hlt).trans h5⟩
/-- Kind and text of each of a list of terms. -/
def kin (d : Nat) (ks : List (Tr d)) (i : Nat) : Int × ByteArray := (ks[i]?).elim (0, ⟨#[]⟩) (fun y => ((root d y).k, (root d y).t))
theorem Kq.kf {W : World} {ko : Option Addr} {d : Nat} {ks : List (Tr d)} (h : Kq (Tv W d) W ko ks) : Kf W ko ks.length (kin d ks) := by
  refine ⟨h.room, fun h0 => ?_⟩
  obtain ⟨b, off, e, hl, hc⟩ := h.cells h0
  refine ⟨b, off, e, hl, fun i hi => ?_⟩
  obtain ⟨c0, c1, c2, c3, c4, c5, hv, q0, q1, q2, q3, q4, q5⟩ := hc i ks[i] (by simp [hi])
  have ek : kin d ks i = ((root d ks[i]).k, (root d ks[i]).t) := by unfold kin; simp [hi]
  rw [ek]
  cases d with
  | zero => exact hv.elim
  | succ d =>
    obtain ⟨⟨so, sn, sc, ao, an, ac, uo, kc, ev, _⟩, _⟩ := hv
    injection ev with ev0 ev
    injection ev with ev1 ev
    injection ev with ev2 ev
    injection ev with ev3 ev
    injection ev with ev4 ev
    injection ev with ev5 ev
    subst ev0 ev1 ev2 ev3 ev4 ev5
    exact ⟨_, _, _, _, _, _, _, _, _, _, q0, q1, q2, q3, q4, q5⟩

/-- The function that asks it. -/
def fv (p : Nat) : Value := .func (.func (if p = 1 then 87 else if p = 2 then 86 else if p = 3 then 89 else if p = 4 then 91 else 92)) #[] #[]
theorem pcase {p : Nat} (h : 1 ≤ p) (g : p ≤ 5) : p = 1 ∨ p = 2 ∨ p = 3 ∨ p = 4 ∨ p = 5 := by omega
set_option maxHeartbeats 2000000 in
theorem ask1_any (p : Nat) (hp : 1 ≤ p) (hq : p ≤ 5) (k n : Int) (t : ByteArray) (so ao ko : Option Addr) (sn sc an ac kn kc : Nat) (w : World) :
    Calls Tryz.prog 115 #[.agg #[.int .i64 k, .string t, .int .i64 n, .slice so sn sc, .slice ao an ac, .slice ko kn kc], fv p] w fun e w' => e = .returned (.bool (askB p k t)) ∧ Below w.heap.size w w' := by
  have k0 := box_below w (.cells #[.int .i64 k, .string t, .int .i64 n, .slice so sn sc, .slice ao an ac, .slice ko kn kc] 31)
  obtain ⟨b0, b1, b2, b3, b4, b5⟩ := box6 (allocNew w (.cells #[.int .i64 k, .string t, .int .i64 n, .slice so sn sc, .slice ao an ac, .slice ko kn kc] 31))
  rcases pcase hp hq with rfl | rfl | rfl | rfl | rfl
  · have hc := fun W => isNoun_any k n t so ao ko sn sc an ac kn kc W
    generalize askB 1 k t = B at *
    unfold fv
    go_enter Tryz.func115, Tryz.ntmps115
    go_wp2_with (go_at_call 87; (with_reducible refine (hc _).mono ?_); rintro e w6 ⟨rfl, b6⟩)
    go_ret
    exact ⟨rfl, k0.trans (b6.mono k0.size)⟩
  · have hc := fun W => isVerb_any k n t so ao ko sn sc an ac kn kc W
    generalize askB 2 k t = B at *
    unfold fv
    go_enter Tryz.func115, Tryz.ntmps115
    go_wp2_with (go_at_call 86; (with_reducible refine (hc _).mono ?_); rintro e w6 ⟨rfl, b6⟩)
    go_ret
    exact ⟨rfl, k0.trans (b6.mono k0.size)⟩
  · have hc := fun W => isBody_any k n t so ao ko sn sc an ac kn kc W
    generalize askB 3 k t = B at *
    unfold fv
    go_enter Tryz.func115, Tryz.ntmps115
    go_wp2_with (go_at_call 89; (with_reducible refine (hc _).mono ?_); rintro e w6 ⟨rfl, b6⟩)
    go_ret
    exact ⟨rfl, k0.trans (b6.mono k0.size)⟩
  · have hc := fun W => isInBody_any k n t so ao ko sn sc an ac kn kc W
    generalize askB 4 k t = B at *
    unfold fv
    go_enter Tryz.func115, Tryz.ntmps115
    go_wp2_with (go_at_call 91; (with_reducible refine (hc _).mono ?_); rintro e w6 ⟨rfl, b6⟩)
    go_ret
    exact ⟨rfl, k0.trans (b6.mono k0.size)⟩
  · have hc := fun W => isOperand_any k n t so ao ko sn sc an ac kn kc W
    generalize askB 5 k t = B at *
    unfold fv
    go_enter Tryz.func115, Tryz.ntmps115
    go_wp2_with (go_at_call 92; (with_reducible refine (hc _).mono ?_); rintro e w6 ⟨rfl, b6⟩)
    go_ret
    exact ⟨rfl, k0.trans (b6.mono k0.size)⟩
set_option maxHeartbeats 2000000 in
theorem askAll1_any (p : Nat) (hp : 1 ≤ p) (hq : p ≤ 5) (pf : Nat) (k n : Int) (t : ByteArray) (so ao ko : Option Addr) (sn sc an ac kn kc : Nat) (w : World) (hf : w.cell? ⟨pf, 0, none⟩ = some (fv p)) :
    Calls Tryz.prog 116 #[.agg #[.int .i64 k, .string t, .int .i64 n, .slice so sn sc, .slice ao an ac, .slice ko kn kc], .pointer (some ⟨pf, 0, none⟩)] w fun e w' => e = .returned (.bool (!askB p k t)) ∧ Below w.heap.size w w' := by
  have k0 := box_below w (.cells #[.int .i64 k, .string t, .int .i64 n, .slice so sn sc, .slice ao an ac, .slice ko kn kc] 31)
  obtain ⟨b0, b1, b2, b3, b4, b5⟩ := box6 (allocNew w (.cells #[.int .i64 k, .string t, .int .i64 n, .slice so sn sc, .slice ao an ac, .slice ko kn kc] 31))
  have hf0 := (k0.cell (p := ⟨pf, 0, none⟩) (World.block_lt_of_cell? w _ hf)).trans hf
  clear hf
  rcases pcase hp hq with rfl | rfl | rfl | rfl | rfl
  · have hc := fun W => isNoun_any k n t so ao ko sn sc an ac kn kc W
    generalize askB 1 k t = B at *
    unfold fv at hf0
    go_enter Tryz.func116, Tryz.ntmps116
    go_wp2_with (go_at_call 87; (with_reducible refine (hc _).mono ?_); rintro e w6 ⟨rfl, b6⟩)
    go_ret
    exact ⟨rfl, k0.trans (b6.mono k0.size)⟩
  · have hc := fun W => isVerb_any k n t so ao ko sn sc an ac kn kc W
    generalize askB 2 k t = B at *
    unfold fv at hf0
    go_enter Tryz.func116, Tryz.ntmps116
    go_wp2_with (go_at_call 86; (with_reducible refine (hc _).mono ?_); rintro e w6 ⟨rfl, b6⟩)
    go_ret
    exact ⟨rfl, k0.trans (b6.mono k0.size)⟩
  · have hc := fun W => isBody_any k n t so ao ko sn sc an ac kn kc W
    generalize askB 3 k t = B at *
    unfold fv at hf0
    go_enter Tryz.func116, Tryz.ntmps116
    go_wp2_with (go_at_call 89; (with_reducible refine (hc _).mono ?_); rintro e w6 ⟨rfl, b6⟩)
    go_ret
    exact ⟨rfl, k0.trans (b6.mono k0.size)⟩
  · have hc := fun W => isInBody_any k n t so ao ko sn sc an ac kn kc W
    generalize askB 4 k t = B at *
    unfold fv at hf0
    go_enter Tryz.func116, Tryz.ntmps116
    go_wp2_with (go_at_call 91; (with_reducible refine (hc _).mono ?_); rintro e w6 ⟨rfl, b6⟩)
    go_ret
    exact ⟨rfl, k0.trans (b6.mono k0.size)⟩
  · have hc := fun W => isOperand_any k n t so ao ko sn sc an ac kn kc W
    generalize askB 5 k t = B at *
    unfold fv at hf0
    go_enter Tryz.func116, Tryz.ntmps116
    go_wp2_with (go_at_call 92; (with_reducible refine (hc _).mono ?_); rintro e w6 ⟨rfl, b6⟩)
    go_ret
    exact ⟨rfl, k0.trans (b6.mono k0.size)⟩

/-- A list of functions that ask. -/
structure Wq (W : World) (wo : Option Addr) (ps : List Nat) : Prop where
  ok : ∀ p, p ∈ ps → 1 ≤ p ∧ p ≤ 5
  few : ps.length ≤ 100
  cells : 0 < ps.length → ∃ b off, wo = some ⟨b, off, none⟩ ∧ b < W.heap.size ∧ ∀ i p, ps[i]? = some p → W.cell? ⟨b, off + i, none⟩ = some (fv p)
/-- Are there as many, and each as its own is asked? -/
def kaB (ps : List Nat) (n : Nat) (g : Nat → Int × ByteArray) : Bool := decide (n = ps.length) && pall (fun i => askB (ps.getD i 0) (g i).1 (g i).2) n
set_option maxHeartbeats 4000000 in
theorem equalAsk_any (ko : Option Addr) (n kc : Nat) (g : Nat → Int × ByteArray) (wo : Option Addr) (wc : Nat) (ps : List Nat) (w : World) (h : Kf w ko n g) (hw : Wq w wo ps) :
    Calls Tryz.prog 114 #[.slice ko n kc, .slice wo ps.length wc, .func (.func 115) #[] #[]] w fun e w' => e = .returned (.bool (kaB ps n g)) ∧ Below w.heap.size w w' := by
  have HB : kaB ps n g = (decide (n = ps.length) && pall (fun i => askB (ps.getD i 0) (g i).1 (g i).2) n) := rfl
  have hrm := h.room
  have hfw := hw.few
  by_cases hn : n = ps.length
  · have HW : Hid (Wq w wo ps) := hw
    have HF : Hid (∀ i, i < n → ∃ p, ps[i]? = some p ∧ 1 ≤ p ∧ p ≤ 5 ∧ ps.getD i 0 = p) := fun i hi => by
      have hi' : i < ps.length := by omega
      refine ⟨ps[i], by simp [hi'], ?_, ?_, by simp [hi']⟩
      · exact (hw.ok _ (List.getElem_mem hi')).1
      · exact (hw.ok _ (List.getElem_mem hi')).2
    have t0 : ((n : Int) == (ps.length : Int)) = true := by simp; omega
    rw [HB, ← hn]
    rw [← hn] at t0
    have d0 : decide (n = n) = true := by simp
    rw [d0, Bool.true_and]
    obtain ⟨f, hf⟩ : ∃ f : Nat → Bool, f = fun i => askB (ps.getD i 0) (g i).1 (g i).2 := ⟨_, rfl⟩
    have hfi : Hid (∀ i, f i = askB (ps.getD i 0) (g i).1 (g i).2) := fun i => by rw [hf]
    rw [← hf]
    have HN : Hid (n = ps.length) := hn
    clear hw hn HB d0 hf hfw
    go_enter Tryz.func114, Tryz.ntmps114
    go_wp2
    go_loopw [17] (fun i V => ∃ k : Nat, k ≤ n ∧ i = .int .i64 (k : Nat) ∧ Below w.heap.size w V ∧ ∀ j, j < k → f j = true) (fun i _ => n - (intOf i).toNat)
    case atStart => exact ⟨0, Nat.zero_le _, rfl, Below.refl _ _, fun j hj => by omega⟩
    case round =>
      obtain ⟨k, hk, rfl, BV, hz⟩ := hrel
      have HZ : Hid (∀ j, j < k → f j = true) := hz
      clear hz t0
      by_cases hlt : k < n
      · have t1 : decide ((k : Int) < (n : Int)) = true := by simp; omega
        have bk : (k : Int) < (n : Int) := by omega
        obtain ⟨b, off, rfl, hb, hc⟩ := h.cells (by omega)
        obtain ⟨m, so, sn, sc, ao, an, ac, uo, un, uc, q0, q1, q2, q3, q4, q5⟩ := hc k hlt
        replace q0 := (BV.cell (p := ⟨b, off + k * 6, none⟩) hb).trans q0
        replace q1 := (BV.cell (p := ⟨b, off + k * 6 + 1, none⟩) hb).trans q1
        replace q2 := (BV.cell (p := ⟨b, off + k * 6 + 2, none⟩) hb).trans q2
        replace q3 := (BV.cell (p := ⟨b, off + k * 6 + 3, none⟩) hb).trans q3
        replace q4 := (BV.cell (p := ⟨b, off + k * 6 + 4, none⟩) hb).trans q4
        replace q5 := (BV.cell (p := ⟨b, off + k * 6 + 5, none⟩) hb).trans q5
        obtain ⟨p, hp, hp1, hp5, hpd⟩ := HF.out k hlt
        obtain ⟨b', off', rfl, hb', hc'⟩ := HW.out.cells (by have := HN.out; omega)
        have r0 := (BV.cell (p := ⟨b', off' + k, none⟩) hb').trans (hc' k p hp)
        have ka := box_below wr (.cells #[.int .i64 (g k).1, .string (g k).2, .int .i64 m, .slice so sn sc, .slice ao an ac, .slice uo un uc] 31)
        have hcal := fun U => ask1_any p hp1 hp5 (g k).1 m (g k).2 so ao uo sn sc an ac un uc U
        have hfk := hfi.out k
        rw [hpd] at hfk
        rw [← hfk] at hcal
        have r1 := (ka.cell (p := ⟨b', off' + k, none⟩) (World.block_lt_of_cell? _ _ r0)).trans r0
        obtain ⟨z0, z1, z2, z3, z4, z5⟩ := box6 (allocNew wr (.cells #[.int .i64 (g k).1, .string (g k).2, .int .i64 m, .slice so sn sc, .slice ao an ac, .slice uo un uc] 31))
        generalize fv p = fp at *
        generalize (g k).1 = gk at *
        generalize (g k).2 = gt at *
        clear hfk hc hc' hp hpd
        cases hB : f k
        · rw [hB] at hcal
          have HNO : Hid (pall f n = false) := pall_no hlt hB
          clear hB
          go_wp2_with (go_at_call 115; (with_reducible refine (hcal _).mono ?_); rintro e w6 ⟨rfl, b6⟩)
          go_ret
          exact ⟨ret_bool HNO.out.symm, BV.trans ((ka.trans (b6.mono ka.size)).mono BV.size)⟩
        · rw [hB] at hcal
          have HB2 : Hid (f k = true) := hB
          clear hB
          go_wp2_with (go_at_call 115; (with_reducible refine (hcal _).mono ?_); rintro e w6 ⟨rfl, b6⟩)
          go_roundw
          case rel => exact ⟨k + 1, by omega, by go_num, BV.trans ((ka.trans (b6.mono ka.size)).mono BV.size), fun j hj => by
            rcases Nat.lt_succ_iff_lt_or_eq.1 hj with h | h
            · exact HZ.out j h
            · rw [h]; exact HB2.out⟩
          case measure => simp [intOf]; omega
      · obtain rfl : k = n := by omega
        have t1 : decide ((k : Int) < (k : Int)) = false := by simp
        have HY : Hid (pall f k = true) := (pall_iff f k).2 HZ.out
        go_wp2
        go_ret
        exact ⟨ret_bool HY.out.symm, BV⟩
  · have t0 : ((n : Int) == (ps.length : Int)) = false := by simp; omega
    have d0 : decide (n = ps.length) = false := by simp [hn]
    rw [HB, d0, Bool.false_and]
    clear hn HB d0
    go_enter Tryz.func114, Tryz.ntmps114
    go_wp2
    go_ret
    exact ⟨rfl, Below.refl _ _⟩
set_option maxHeartbeats 1000000 in
theorem kidsAre_any (ko : Option Addr) (n kc : Nat) (g : Nat → Int × ByteArray) (wo : Option Addr) (wc : Nat) (ps : List Nat) (w : World) (h : Kf w ko n g) (hw : Wq w wo ps) :
    Calls Tryz.prog 85 #[.slice ko n kc, .slice wo ps.length wc] w fun e w' => e = .returned (.bool (kaB ps n g)) ∧ Below w.heap.size w w' := by
  have hc := equalAsk_any ko n kc g wo wc ps w h hw
  generalize kaB ps n g = B at *
  generalize ps.length = m at *
  go_enter Tryz.func85, Tryz.ntmps85
  go_wp2_with (go_at_call 114; (with_reducible refine hc.mono ?_); rintro e w6 ⟨rfl, b6⟩)
  go_ret
  exact ⟨rfl, b6⟩
end Go.Proofs.YtiahilelcppfgaaGreat
