
/- Package term: does all fit? The kids, one by one. -/

import Derived.Test.YtiahilelcppfgaaGreatTI

import Derived.Test.YtiahilelcppfgaaGreatTK

import Derived.Test.YtiahilelcppfgaaGreatTM

namespace Go.Proofs.YtiahilelcppfgaaGreat

open Go.RowKit Go.Maps

set_option linter.unusedVariables false

/-- Does all fit, where x may stand or not? -/
def fitB : (d : Nat) → Tr d → Bool → Bool
  | 0, _, _ => true
  | d + 1, x, h => (txB x.nd.k x.nd.t && (numB x.nd.k x.nd.n && (arrB x.nd.k x.nd.sh x.nd.at' && kidB x.nd.k x.ks.length (kin d x.ks)))) && ((h || !spk x.nd.k x.nd.t) && pall (fun i => (x.ks[i]?).elim true (fun y => fitB d y (if x.nd.k = 23 then decide (x.nd.n = 2) else h))) x.ks.length)
def cloF (pI pF : Nat) : Value := .func (.func 55) #[] #[.pointer (some ⟨pI, 0, none⟩), .pointer (some ⟨pF, 0, none⟩)]
/-- The closures of allFit and what they know. -/
structure Fi (w0 w : World) (pI pF pm g m : Nat) : Prop where
  bel : Below w0.heap.size w0 w
  lg : w0.heap.size ≤ g
  cI : w.cell? ⟨pI, 0, none⟩ = some (cloP pm)
  cF : w.cell? ⟨pF, 0, none⟩ = some (cloF pI pF)
  nI : pI ≠ g
  nF : pF ≠ g
  fm : Fm w pm g m
theorem mw_cell {g p : Nat} {w w' : World} {v : Value} (h : Mw g w w') (hp : p ≠ g) (hc : w.cell? ⟨p, 0, none⟩ = some v) : w'.cell? ⟨p, 0, none⟩ = some v := by
  have l := World.block_lt_of_cell? w _ hc
  simp only [World.cell?] at hc ⊢
  rw [h.block p l hp]
  exact hc
theorem Fi.chg {w0 w w' : World} {pI pF pm g m m' : Nat} (h : Fi w0 w pI pF pm g m) (k : Mw g w w') (f : Fm w' pm g m') : Fi w0 w' pI pF pm g m' :=
  ⟨k.below h.bel (fun k e => by rw [e]; exact h.lg) (Nat.le_refl _), h.lg, mw_cell k h.nI h.cI, mw_cell k h.nF h.cF, h.nI, h.nF, f⟩
theorem Fi.alloc {w0 w : World} {pI pF pm g m : Nat} (h : Fi w0 w pI pF pm g m) (o : Obj) : Fi w0 (w.alloc o) pI pF pm g m :=
  h.chg (Mw.of_below (box_below w o) (Nat.le_refl _)) (h.fm.below (box_below w o) (Nat.le_refl _))
/-- What is told of a term. -/
def FiP (b : Bool) (pm g m : Nat) (w : World) (e : Ending) (w' : World) : Prop := e = .returned (.bool b) ∧ Mw g w w' ∧ ∃ m' : Nat, m' ≤ m ∧ Fm w' pm g m'
set_option maxHeartbeats 2000000 in
theorem kidFits_any (k1 n1 : Int) (t1 : ByteArray) (so ao uo : Option Addr) (sn sc an ac un uc : Nat) (hx B : Bool) (w0 w : World) (pI pF pH pm g m N : Nat) (h : Fi w0 w pI pF pm g m) (hh : w.cell? ⟨pH, 0, none⟩ = some (.bool hx))
    (ih : ∀ W, Fi w0 W pI pF pm g m → Calls Tryz.prog 55 #[.agg #[.int .i64 k1, .string t1, .int .i64 n1, .slice so sn sc, .slice ao an ac, .slice uo un uc], .bool hx, .pointer (some ⟨pI, 0, none⟩), .pointer (some ⟨pF, 0, none⟩)] W fun e w' => FiP B pm g N W e w') :
    Calls Tryz.prog 62 #[.agg #[.int .i64 k1, .string t1, .int .i64 n1, .slice so sn sc, .slice ao an ac, .slice uo un uc], .pointer (some ⟨pF, 0, none⟩), .pointer (some ⟨pH, 0, none⟩)] w fun e w' => FiP (!B) pm g N w e w' := by
  have k0 := box_below w (.cells #[.int .i64 k1, .string t1, .int .i64 n1, .slice so sn sc, .slice ao an ac, .slice uo un uc] 31)
  obtain ⟨b0, b1, b2, b3, b4, b5⟩ := box6 (allocNew w (.cells #[.int .i64 k1, .string t1, .int .i64 n1, .slice so sn sc, .slice ao an ac, .slice uo un uc] 31))
  have F0 := h.alloc (.cells #[.int .i64 k1, .string t1, .int .i64 n1, .slice so sn sc, .slice ao an ac, .slice uo un uc] 31)
  have f0 := F0.cF
  have h0 := (k0.cell (p := ⟨pH, 0, none⟩) (World.block_lt_of_cell? w _ hh)).trans hh
  have hc := ih _ F0
  unfold cloF at f0
  go_enter Tryz.func62, Tryz.ntmps62
  go_wp2_with (go_at_call 55; (with_reducible refine hc.mono ?_); rintro e w1 ⟨rfl, m1, x1⟩)
  go_ret
  exact ⟨rfl, (Mw.of_below k0 (Nat.le_refl _)).trans m1, x1⟩
set_option maxHeartbeats 4000000 in
theorem indexFits_any (d : Nat) (ks : List (Tr d)) (ko : Option Addr) (kc : Nat) (hx : Bool) (w0 w : World) (pI pF pH pm g m : Nat) (h : Fi w0 w pI pF pm g m) (hk : Kq (Tv w0 d) w0 ko ks) (hh : w.cell? ⟨pH, 0, none⟩ = some (.bool hx)) (hH : pH ≠ g) (hm : m + psum (fun i => (ks[i]?).elim 0 (nds d)) ks.length < 1000000)
    (ih : ∀ (y : Tr d) (c0 c1 c2 c3 c4 c5 : Value) (W : World) (m : Nat), Tv w0 d y [c0, c1, c2, c3, c4, c5] → Fi w0 W pI pF pm g m → m + nds d y < 1000000 → Calls Tryz.prog 55 #[.agg #[c0, c1, c2, c3, c4, c5], .bool hx, .pointer (some ⟨pI, 0, none⟩), .pointer (some ⟨pF, 0, none⟩)] W fun e w' => FiP (fitB d y hx) pm g (m + nds d y) W e w') :
    Calls Tryz.prog 93 #[.slice ko ks.length kc, .func (.func 62) #[] #[.pointer (some ⟨pF, 0, none⟩), .pointer (some ⟨pH, 0, none⟩)]] w fun e w' => ∃ i : Int, e = .returned (.int .i64 i) ∧ decide (0 ≤ i) = (!pall (fun i => (ks[i]?).elim true (fun y => fitB d y hx)) ks.length) ∧ Mw g w w' ∧ ∃ m' : Nat, m' ≤ m + psum (fun i => (ks[i]?).elim 0 (nds d)) ks.length ∧ Fm w' pm g m' := by
  obtain ⟨f, hf⟩ : ∃ f : Nat → Bool, f = fun i => (ks[i]?).elim true (fun y => fitB d y hx) := ⟨_, rfl⟩
  obtain ⟨F, hF⟩ : ∃ F : Nat → Nat, F = fun i => (ks[i]?).elim 0 (nds d) := ⟨_, rfl⟩
  have hfk : Hid (∀ i y, ks[i]? = some y → f i = fitB d y hx) := fun i y e => by rw [hf]; simp only [e, Option.elim]
  have hFk : Hid (∀ i y, ks[i]? = some y → F i = nds d y) := fun i y e => by rw [hF]; simp only [e, Option.elim]
  rw [← hf]
  rw [← hF] at hm ⊢
  clear hf hF
  have hrm := hk.room
  have HK : Hid (Kq (Tv w0 d) w0 ko ks) := hk
  clear hk
  generalize hL : ks.length = L at *
  go_enter Tryz.func93, Tryz.ntmps93
  go_wp2
  go_loopw [8] (fun i V => ∃ k n : Nat, k ≤ L ∧ i = .int .i64 (k : Nat) ∧ Mw g w V ∧ Fm V pm g n ∧ n ≤ m + psum F k ∧ ∀ j, j < k → f j = true) (fun i _ => L - (intOf i).toNat)
  case atStart => exact ⟨0, m, Nat.zero_le _, rfl, Chg.refl _ _, h.fm, Nat.le_add_right _ _, fun j hj => by omega⟩
  case round =>
    obtain ⟨k, n, hk, rfl, K, FM, hn, hz⟩ := hrel
    have HZ : Hid (∀ j, j < k → f j = true) := hz
    clear hz
    by_cases hlt : k < L
    · have t3 : decide ((k : Int) < (L : Int)) = true := by simp; omega
      have bk : (k : Int) < (L : Int) := by omega
      have V1 := h.chg K FM
      obtain ⟨y, hy⟩ : ∃ y, ks[k]? = some y := ⟨ks[k]'(by omega), by simp⟩
      obtain ⟨b, off, rfl, hb, hc⟩ := HK.out.cells (by omega)
      obtain ⟨c0, c1, c2, c3, c4, c5, hv, q0, q1, q2, q3, q4, q5⟩ := hc k y hy
      obtain ⟨k1, t1, n1, so, sn, sc, ao, an, ac, uo, un, uc, ev⟩ := hv.form
      injection ev with ev0 ev
      injection ev with ev1 ev
      injection ev with ev2 ev
      injection ev with ev3 ev
      injection ev with ev4 ev
      injection ev with ev5 ev
      subst ev0 ev1 ev2 ev3 ev4 ev5
      replace q0 := (V1.bel.cell (p := ⟨b, off + k * 6, none⟩) hb).trans q0
      replace q1 := (V1.bel.cell (p := ⟨b, off + k * 6 + 1, none⟩) hb).trans q1
      replace q2 := (V1.bel.cell (p := ⟨b, off + k * 6 + 2, none⟩) hb).trans q2
      replace q3 := (V1.bel.cell (p := ⟨b, off + k * 6 + 3, none⟩) hb).trans q3
      replace q4 := (V1.bel.cell (p := ⟨b, off + k * 6 + 4, none⟩) hb).trans q4
      replace q5 := (V1.bel.cell (p := ⟨b, off + k * 6 + 5, none⟩) hb).trans q5
      have hp := psum_le F (i := k + 1) (m := L) (by omega)
      simp only [psum] at hp
      have eF := hFk.out k y hy
      have hcal := kidFits_any k1 n1 t1 so ao uo sn sc an ac un uc hx (fitB d y hx) w0 wr pI pF pH pm g n (n + nds d y) V1 (mw_cell K hH hh) (fun W hW => ih y _ _ _ _ _ _ W n hv hW (by omega))
      have HP : Hid (n + nds d y ≤ m + psum F (k + 1) ∧ m + psum F (k + 1) ≤ m + psum F L) := ⟨by simp only [psum]; omega, by simp only [psum]; omega⟩
      rw [← hfk.out k y hy] at hcal
      clear hp eF hc
      cases hB : f k
      · rw [hB] at hcal
        have HNO : Hid (pall f L = false) := pall_no hlt hB
        clear hB
        go_wp2_with (go_at_call 62; (with_reducible refine hcal.mono ?_); rintro e w1 ⟨rfl, m1, n1, l1, x1⟩)
        go_ret
        exact ⟨_, rfl, by rw [HNO.out]; simp, K.trans m1, n1, Nat.le_trans l1 (Nat.le_trans HP.out.1 HP.out.2), x1⟩
      · rw [hB] at hcal
        have HB2 : Hid (f k = true) := hB
        clear hB
        go_wp2_with (go_at_call 62; (with_reducible refine hcal.mono ?_); rintro e w1 ⟨rfl, m1, n1, l1, x1⟩)
        go_roundw
        case rel => exact ⟨k + 1, n1, by omega, by go_num, K.trans m1, x1, Nat.le_trans l1 HP.out.1, fun j hj => by
          rcases Nat.lt_succ_iff_lt_or_eq.1 hj with h | h
          · exact HZ.out j h
          · rw [h]; exact HB2.out⟩
        case measure => simp [intOf]; omega
    · obtain rfl : k = L := by omega
      have t3 : decide ((k : Int) < (k : Int)) = false := by simp
      have HY : Hid (pall f k = true) := (pall_iff f k).2 HZ.out
      go_wp2
      go_ret
      exact ⟨-1, rfl, by rw [HY.out]; rfl, K, n, hn, FM⟩
set_option maxHeartbeats 1000000 in
theorem containsFits_any (d : Nat) (ks : List (Tr d)) (ko : Option Addr) (kc : Nat) (hx : Bool) (w0 w : World) (pI pF pH pm g m : Nat) (h : Fi w0 w pI pF pm g m) (hk : Kq (Tv w0 d) w0 ko ks) (hh : w.cell? ⟨pH, 0, none⟩ = some (.bool hx)) (hH : pH ≠ g) (hm : m + psum (fun i => (ks[i]?).elim 0 (nds d)) ks.length < 1000000)
    (ih : ∀ (y : Tr d) (c0 c1 c2 c3 c4 c5 : Value) (W : World) (m : Nat), Tv w0 d y [c0, c1, c2, c3, c4, c5] → Fi w0 W pI pF pm g m → m + nds d y < 1000000 → Calls Tryz.prog 55 #[.agg #[c0, c1, c2, c3, c4, c5], .bool hx, .pointer (some ⟨pI, 0, none⟩), .pointer (some ⟨pF, 0, none⟩)] W fun e w' => FiP (fitB d y hx) pm g (m + nds d y) W e w') :
    Calls Tryz.prog 61 #[.slice ko ks.length kc, .func (.func 62) #[] #[.pointer (some ⟨pF, 0, none⟩), .pointer (some ⟨pH, 0, none⟩)]] w fun e w' => FiP (!pall (fun i => (ks[i]?).elim true (fun y => fitB d y hx)) ks.length) pm g (m + psum (fun i => (ks[i]?).elim 0 (nds d)) ks.length) w e w' := by
  have hc := indexFits_any d ks ko kc hx w0 w pI pF pH pm g m h hk hh hH hm ih
  generalize pall (fun i => (ks[i]?).elim true (fun y => fitB d y hx)) ks.length = B at *
  generalize psum (fun i => (ks[i]?).elim 0 (nds d)) ks.length = N at *
  generalize ks.length = L at *
  go_enter Tryz.func61, Tryz.ntmps61
  go_wp2_with (go_at_call 93; (with_reducible refine hc.mono ?_); rintro e w6 ⟨i, rfl, hi, m6, x6⟩; have HI : Hid (decide (0 ≤ i) = !B) := hi; clear hi)
  go_ret
  exact ⟨ret_bool HI.out, m6, x6⟩
end Go.Proofs.YtiahilelcppfgaaGreat
