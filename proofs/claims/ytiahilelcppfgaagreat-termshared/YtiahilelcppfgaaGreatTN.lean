
/- Package term: does all fit? The kids, one by one. -/

import Derived.Test.YtiahilelcppfgaaGreatTH0

import Derived.Test.YtiahilelcppfgaaGreatTH1

import Derived.Test.YtiahilelcppfgaaGreatTH2

import Derived.Test.YtiahilelcppfgaaGreatTH3

import Derived.Test.YtiahilelcppfgaaGreatTK

import Derived.Test.YtiahilelcppfgaaGreatTM

namespace Go.Proofs.YtiahilelcppfgaaGreat

open Go.RowKit

set_option linter.unusedVariables false

set_option maxHeartbeats 4000000 in
theorem kidsFit_no (k : Int) (t : ByteArray) (m : Int) (so ao ko : Option Addr) (sn sc an ac n kc : Nat) (g : Nat → Int × ByteArray) (w : World) (h : Kf w ko n g) (hk : k ≠ 1 ∧ k ≠ 2 ∧ k ≠ 20 ∧ k ≠ 21 ∧ k ≠ 3 ∧ k ≠ 4 ∧ k ≠ 5 ∧ k ≠ 10 ∧ k ≠ 11 ∧ k ≠ 12 ∧ k ≠ 13 ∧ k ≠ 14 ∧ k ≠ 22 ∧ k ≠ 23 ∧ k ≠ 24 ∧ k ≠ 25 ∧ k ≠ 26 ∧ k ≠ 27 ∧ k ≠ 42 ∧ k ≠ 28 ∧ k ≠ 29 ∧ k ≠ 30 ∧ k ≠ 31 ∧ k ≠ 32 ∧ k ≠ 33 ∧ k ≠ 34 ∧ k ≠ 35 ∧ k ≠ 36 ∧ k ≠ 37 ∧ k ≠ 38 ∧ k ≠ 44 ∧ k ≠ 46 ∧ k ≠ 39 ∧ k ≠ 40 ∧ k ≠ 41 ∧ k ≠ 43 ∧ k ≠ 45) :
    Calls Tryz.prog 59 #[.agg #[.int .i64 k, .string t, .int .i64 m, .slice so sn sc, .slice ao an ac, .slice ko n kc]] w fun e w' => e = .returned (.bool (kidB k n g)) ∧ Below w.heap.size w w' := by
  have k0 := box_below w (.cells #[.int .i64 k, .string t, .int .i64 m, .slice so sn sc, .slice ao an ac, .slice ko n kc] 31)
  obtain ⟨b0, b1, b2, b3, b4, b5⟩ := box6 (allocNew w (.cells #[.int .i64 k, .string t, .int .i64 m, .slice so sn sc, .slice ao an ac, .slice ko n kc] 31))
  obtain ⟨e1, e2, e20, e21, e3, e4, e5, e10, e11, e12, e13, e14, e22, e23, e24, e25, e26, e27, e42, e28, e29, e30, e31, e32, e33, e34, e35, e36, e37, e38, e44, e46, e39, e40, e41, e43, e45⟩ := hk
  have hno : kidB k n g = false := by simp [kidB, e1, e2, e20, e21, e3, e4, e5, e10, e11, e12, e13, e14, e22, e23, e24, e25, e26, e27, e42, e28, e29, e30, e31, e32, e33, e34, e35, e36, e37, e38, e44, e46, e39, e40, e41, e43, e45]
  rw [hno]
  clear hno
  have f1 : (k == 1) = false := by simp [e1]
  have f2 : (k == 2) = false := by simp [e2]
  have f20 : (k == 20) = false := by simp [e20]
  have f21 : (k == 21) = false := by simp [e21]
  have f3 : (k == 3) = false := by simp [e3]
  have f4 : (k == 4) = false := by simp [e4]
  have f5 : (k == 5) = false := by simp [e5]
  have f10 : (k == 10) = false := by simp [e10]
  have f11 : (k == 11) = false := by simp [e11]
  have f12 : (k == 12) = false := by simp [e12]
  have f13 : (k == 13) = false := by simp [e13]
  have f14 : (k == 14) = false := by simp [e14]
  have f22 : (k == 22) = false := by simp [e22]
  have f23 : (k == 23) = false := by simp [e23]
  have f24 : (k == 24) = false := by simp [e24]
  have f25 : (k == 25) = false := by simp [e25]
  have f26 : (k == 26) = false := by simp [e26]
  have f27 : (k == 27) = false := by simp [e27]
  have f42 : (k == 42) = false := by simp [e42]
  have f28 : (k == 28) = false := by simp [e28]
  have f29 : (k == 29) = false := by simp [e29]
  have f30 : (k == 30) = false := by simp [e30]
  have f31 : (k == 31) = false := by simp [e31]
  have f32 : (k == 32) = false := by simp [e32]
  have f33 : (k == 33) = false := by simp [e33]
  have f34 : (k == 34) = false := by simp [e34]
  have f35 : (k == 35) = false := by simp [e35]
  have f36 : (k == 36) = false := by simp [e36]
  have f37 : (k == 37) = false := by simp [e37]
  have f38 : (k == 38) = false := by simp [e38]
  have f44 : (k == 44) = false := by simp [e44]
  have f46 : (k == 46) = false := by simp [e46]
  have f39 : (k == 39) = false := by simp [e39]
  have f40 : (k == 40) = false := by simp [e40]
  have f41 : (k == 41) = false := by simp [e41]
  have f43 : (k == 43) = false := by simp [e43]
  have f45 : (k == 45) = false := by simp [e45]
  clear e1 e2 e20 e21 e3 e4 e5 e10 e11 e12 e13 e14 e22 e23 e24 e25 e26 e27 e42 e28 e29 e30 e31 e32 e33 e34 e35 e36 e37 e38 e44 e46 e39 e40 e41 e43 e45
  go_enter Tryz.func59, Tryz.ntmps59
  go_wp2
  go_ret
  exact ⟨rfl, k0⟩
theorem kidsFit_any (k : Int) (t : ByteArray) (m : Int) (so ao ko : Option Addr) (sn sc an ac n kc : Nat) (g : Nat → Int × ByteArray) (w : World) (h : Kf w ko n g) :
    Calls Tryz.prog 59 #[.agg #[.int .i64 k, .string t, .int .i64 m, .slice so sn sc, .slice ao an ac, .slice ko n kc]] w fun e w' => e = .returned (.bool (kidB k n g)) ∧ Below w.heap.size w w' := by
  by_cases e1 : k = 1
  · subst e1; exact kidsFit_1 t m so ao ko sn sc an ac n kc g w h
  by_cases e2 : k = 2
  · subst e2; exact kidsFit_2 t m so ao ko sn sc an ac n kc g w h
  by_cases e20 : k = 20
  · subst e20; exact kidsFit_20 t m so ao ko sn sc an ac n kc g w h
  by_cases e21 : k = 21
  · subst e21; exact kidsFit_21 t m so ao ko sn sc an ac n kc g w h
  by_cases e3 : k = 3
  · subst e3; exact kidsFit_3 t m so ao ko sn sc an ac n kc g w h
  by_cases e4 : k = 4
  · subst e4; exact kidsFit_4 t m so ao ko sn sc an ac n kc g w h
  by_cases e5 : k = 5
  · subst e5; exact kidsFit_5 t m so ao ko sn sc an ac n kc g w h
  by_cases e10 : k = 10
  · subst e10; exact kidsFit_10 t m so ao ko sn sc an ac n kc g w h
  by_cases e11 : k = 11
  · subst e11; exact kidsFit_11 t m so ao ko sn sc an ac n kc g w h
  by_cases e12 : k = 12
  · subst e12; exact kidsFit_12 t m so ao ko sn sc an ac n kc g w h
  by_cases e13 : k = 13
  · subst e13; exact kidsFit_13 t m so ao ko sn sc an ac n kc g w h
  by_cases e14 : k = 14
  · subst e14; exact kidsFit_14 t m so ao ko sn sc an ac n kc g w h
  by_cases e22 : k = 22
  · subst e22; exact kidsFit_22 t m so ao ko sn sc an ac n kc g w h
  by_cases e23 : k = 23
  · subst e23; exact kidsFit_23 t m so ao ko sn sc an ac n kc g w h
  by_cases e24 : k = 24
  · subst e24; exact kidsFit_24 t m so ao ko sn sc an ac n kc g w h
  by_cases e25 : k = 25
  · subst e25; exact kidsFit_25 t m so ao ko sn sc an ac n kc g w h
  by_cases e26 : k = 26
  · subst e26; exact kidsFit_26 t m so ao ko sn sc an ac n kc g w h
  by_cases e27 : k = 27
  · subst e27; exact kidsFit_27 t m so ao ko sn sc an ac n kc g w h
  by_cases e42 : k = 42
  · subst e42; exact kidsFit_42 t m so ao ko sn sc an ac n kc g w h
  by_cases e28 : k = 28
  · subst e28; exact kidsFit_28 t m so ao ko sn sc an ac n kc g w h
  by_cases e29 : k = 29
  · subst e29; exact kidsFit_29 t m so ao ko sn sc an ac n kc g w h
  by_cases e30 : k = 30
  · subst e30; exact kidsFit_30 t m so ao ko sn sc an ac n kc g w h
  by_cases e31 : k = 31
  · subst e31; exact kidsFit_31 t m so ao ko sn sc an ac n kc g w h
  by_cases e32 : k = 32
  · subst e32; exact kidsFit_32 t m so ao ko sn sc an ac n kc g w h
  by_cases e33 : k = 33
  · subst e33; exact kidsFit_33 t m so ao ko sn sc an ac n kc g w h
  by_cases e34 : k = 34
  · subst e34; exact kidsFit_34 t m so ao ko sn sc an ac n kc g w h
  by_cases e35 : k = 35
  · subst e35; exact kidsFit_35 t m so ao ko sn sc an ac n kc g w h
  by_cases e36 : k = 36
  · subst e36; exact kidsFit_36 t m so ao ko sn sc an ac n kc g w h
  by_cases e37 : k = 37
  · subst e37; exact kidsFit_37 t m so ao ko sn sc an ac n kc g w h
  by_cases e38 : k = 38
  · subst e38; exact kidsFit_38 t m so ao ko sn sc an ac n kc g w h
  by_cases e44 : k = 44
  · subst e44; exact kidsFit_44 t m so ao ko sn sc an ac n kc g w h
  by_cases e46 : k = 46
  · subst e46; exact kidsFit_46 t m so ao ko sn sc an ac n kc g w h
  by_cases e39 : k = 39
  · subst e39; exact kidsFit_39 t m so ao ko sn sc an ac n kc g w h
  by_cases e40 : k = 40
  · subst e40; exact kidsFit_40 t m so ao ko sn sc an ac n kc g w h
  by_cases e41 : k = 41
  · subst e41; exact kidsFit_41 t m so ao ko sn sc an ac n kc g w h
  by_cases e43 : k = 43
  · subst e43; exact kidsFit_43 t m so ao ko sn sc an ac n kc g w h
  by_cases e45 : k = 45
  · subst e45; exact kidsFit_45 t m so ao ko sn sc an ac n kc g w h
  exact kidsFit_no k t m so ao ko sn sc an ac n kc g w h ⟨e1, e2, e20, e21, e3, e4, e5, e10, e11, e12, e13, e14, e22, e23, e24, e25, e26, e27, e42, e28, e29, e30, e31, e32, e33, e34, e35, e36, e37, e38, e44, e46, e39, e40, e41, e43, e45⟩
end Go.Proofs.YtiahilelcppfgaaGreat

namespace Go.Proofs.YtiahilelcppfgaaGreat

open Go.RowKit Go.Maps

set_option linter.unusedVariables false

/-- Does all fit, where x may stand or not? -/
def fitB : (d : Nat) → Tr d → Bool → Bool
  | 0, _, _ => true
  | d + 1, x, h => (txB x.nd.k x.nd.t && (numB x.nd.k x.nd.n && (arrB x.nd.k x.nd.sh x.nd.at' && kidB x.nd.k x.ks.length (kin d x.ks)))) && ((h || !spk x.nd.k x.nd.t) && pall (fun i => (x.ks[i]?).elim true (fun y => fitB d y (if x.nd.k = 23 then decide (x.nd.n = 2) else h))) x.ks.length)
def cloF (pI pF : Nat) : Value := .func (.func 55) #[] #[.pointer (some ⟨pI, 0, none⟩), .pointer (some ⟨pF, 0, none⟩)]
/-- The closures of allFit and what they know. -/
structure Fi (w0 w : World) (pI pF pm g m : Nat) : Prop where
  bel : Below w0.heap.size w0 w
  lg : w0.heap.size ≤ g
  cI : w.cell? ⟨pI, 0, none⟩ = some (cloP pm)
  cF : w.cell? ⟨pF, 0, none⟩ = some (cloF pI pF)
  nI : pI ≠ g
  nF : pF ≠ g
  fm : Fm w pm g m
theorem mw_cell {g p : Nat} {w w' : World} {v : Value} (h : Mw g w w') (hp : p ≠ g) (hc : w.cell? ⟨p, 0, none⟩ = some v) : w'.cell? ⟨p, 0, none⟩ = some v := by
  have l := World.block_lt_of_cell? w _ hc
  simp only [World.cell?] at hc ⊢
  rw [h.block p l hp]
  exact hc
theorem Fi.chg {w0 w w' : World} {pI pF pm g m m' : Nat} (h : Fi w0 w pI pF pm g m) (k : Mw g w w') (f : Fm w' pm g m') : Fi w0 w' pI pF pm g m' :=
  ⟨k.below h.bel (fun k e => by rw [e]; exact h.lg) (Nat.le_refl _), h.lg, mw_cell k h.nI h.cI, mw_cell k h.nF h.cF, h.nI, h.nF, f⟩
theorem Fi.alloc {w0 w : World} {pI pF pm g m : Nat} (h : Fi w0 w pI pF pm g m) (o : Obj) : Fi w0 (w.alloc o) pI pF pm g m :=
  h.chg (Mw.of_below (box_below w o) (Nat.le_refl _)) (h.fm.below (box_below w o) (Nat.le_refl _))
/-- What is told of a term. -/
def FiP (b : Bool) (pm g m : Nat) (w : World) (e : Ending) (w' : World) : Prop := e = .returned (.bool b) ∧ Mw g w w' ∧ ∃ m' : Nat, m' ≤ m ∧ Fm w' pm g m'
set_option maxHeartbeats 2000000 in
theorem kidFits_any (k1 n1 : Int) (t1 : ByteArray) (so ao uo : Option Addr) (sn sc an ac un uc : Nat) (hx B : Bool) (w0 w : World) (pI pF pH pm g m N : Nat) (h : Fi w0 w pI pF pm g m) (hh : w.cell? ⟨pH, 0, none⟩ = some (.bool hx))
    (ih : ∀ W, Fi w0 W pI pF pm g m → Calls Tryz.prog 55 #[.agg #[.int .i64 k1, .string t1, .int .i64 n1, .slice so sn sc, .slice ao an ac, .slice uo un uc], .bool hx, .pointer (some ⟨pI, 0, none⟩), .pointer (some ⟨pF, 0, none⟩)] W fun e w' => FiP B pm g N W e w') :
    Calls Tryz.prog 62 #[.agg #[.int .i64 k1, .string t1, .int .i64 n1, .slice so sn sc, .slice ao an ac, .slice uo un uc], .pointer (some ⟨pF, 0, none⟩), .pointer (some ⟨pH, 0, none⟩)] w fun e w' => FiP (!B) pm g N w e w' := by
  have k0 := box_below w (.cells #[.int .i64 k1, .string t1, .int .i64 n1, .slice so sn sc, .slice ao an ac, .slice uo un uc] 31)
  obtain ⟨b0, b1, b2, b3, b4, b5⟩ := box6 (allocNew w (.cells #[.int .i64 k1, .string t1, .int .i64 n1, .slice so sn sc, .slice ao an ac, .slice uo un uc] 31))
  have F0 := h.alloc (.cells #[.int .i64 k1, .string t1, .int .i64 n1, .slice so sn sc, .slice ao an ac, .slice uo un uc] 31)
  have f0 := F0.cF
  have h0 := (k0.cell (p := ⟨pH, 0, none⟩) (World.block_lt_of_cell? w _ hh)).trans hh
  have hc := ih _ F0
  unfold cloF at f0
  go_enter Tryz.func62, Tryz.ntmps62
  go_wp2_with (go_at_call 55; (with_reducible refine hc.mono ?_); rintro e w1 ⟨rfl, m1, x1⟩)
  go_ret
  exact ⟨rfl, (Mw.of_below k0 (Nat.le_refl _)).trans m1, x1⟩
set_option maxHeartbeats 4000000 in
theorem indexFits_any (d : Nat) (ks : List (Tr d)) (ko : Option Addr) (kc : Nat) (hx : Bool) (w0 w : World) (pI pF pH pm g m : Nat) (h : Fi w0 w pI pF pm g m) (hk : Kq (Tv w0 d) w0 ko ks) (hh : w.cell? ⟨pH, 0, none⟩ = some (.bool hx)) (hH : pH ≠ g) (hm : m + psum (fun i => (ks[i]?).elim 0 (nds d)) ks.length < 1000000)
    (ih : ∀ (y : Tr d) (c0 c1 c2 c3 c4 c5 : Value) (W : World) (m : Nat), Tv w0 d y [c0, c1, c2, c3, c4, c5] → Fi w0 W pI pF pm g m → m + nds d y < 1000000 → Calls Tryz.prog 55 #[.agg #[c0, c1, c2, c3, c4, c5], .bool hx, .pointer (some ⟨pI, 0, none⟩), .pointer (some ⟨pF, 0, none⟩)] W fun e w' => FiP (fitB d y hx) pm g (m + nds d y) W e w') :
    Calls Tryz.prog 93 #[.slice ko ks.length kc, .func (.func 62) #[] #[.pointer (some ⟨pF, 0, none⟩), .pointer (some ⟨pH, 0, none⟩)]] w fun e w' => ∃ i : Int, e = .returned (.int .i64 i) ∧ decide (0 ≤ i) = (!pall (fun i => (ks[i]?).elim true (fun y => fitB d y hx)) ks.length) ∧ Mw g w w' ∧ ∃ m' : Nat, m' ≤ m + psum (fun i => (ks[i]?).elim 0 (nds d)) ks.length ∧ Fm w' pm g m' := by
  obtain ⟨f, hf⟩ : ∃ f : Nat → Bool, f = fun i => (ks[i]?).elim true (fun y => fitB d y hx) := ⟨_, rfl⟩
  obtain ⟨F, hF⟩ : ∃ F : Nat → Nat, F = fun i => (ks[i]?).elim 0 (nds d) := ⟨_, rfl⟩
  have hfk : Hid (∀ i y, ks[i]? = some y → f i = fitB d y hx) := fun i y e => by rw [hf]; simp only [e, Option.elim]
  have hFk : Hid (∀ i y, ks[i]? = some y → F i = nds d y) := fun i y e => by rw [hF]; simp only [e, Option.elim]
  rw [← hf]
  rw [← hF] at hm ⊢
  clear hf hF
  have hrm := hk.room
  have HK : Hid (Kq (Tv w0 d) w0 ko ks) := hk
  clear hk
  generalize hL : ks.length = L at *
  go_enter Tryz.func93, Tryz.ntmps93
  go_wp2
  go_loopw [8] (fun i V => ∃ k n : Nat, k ≤ L ∧ i = .int .i64 (k : Nat) ∧ Mw g w V ∧ Fm V pm g n ∧ n ≤ m + psum F k ∧ ∀ j, j < k → f j = true) (fun i _ => L - (intOf i).toNat)
  case atStart => exact ⟨0, m, Nat.zero_le _, rfl, Chg.refl _ _, h.fm, Nat.le_add_right _ _, fun j hj => by omega⟩
  case round =>
    obtain ⟨k, n, hk, rfl, K, FM, hn, hz⟩ := hrel
    have HZ : Hid (∀ j, j < k → f j = true) := hz
    clear hz
    by_cases hlt : k < L
    · have t3 : decide ((k : Int) < (L : Int)) = true := by simp; omega
      have bk : (k : Int) < (L : Int) := by omega
      have V1 := h.chg K FM
      obtain ⟨y, hy⟩ : ∃ y, ks[k]? = some y := ⟨ks[k]'(by omega), by simp⟩
      obtain ⟨b, off, rfl, hb, hc⟩ := HK.out.cells (by omega)
      obtain ⟨c0, c1, c2, c3, c4, c5, hv, q0, q1, q2, q3, q4, q5⟩ := hc k y hy
      obtain ⟨k1, t1, n1, so, sn, sc, ao, an, ac, uo, un, uc, ev⟩ := hv.form
      injection ev with ev0 ev
      injection ev with ev1 ev
      injection ev with ev2 ev
      injection ev with ev3 ev
      injection ev with ev4 ev
      injection ev with ev5 ev
      subst ev0 ev1 ev2 ev3 ev4 ev5
      replace q0 := (V1.bel.cell (p := ⟨b, off + k * 6, none⟩) hb).trans q0
      replace q1 := (V1.bel.cell (p := ⟨b, off + k * 6 + 1, none⟩) hb).trans q1
      replace q2 := (V1.bel.cell (p := ⟨b, off + k * 6 + 2, none⟩) hb).trans q2
      replace q3 := (V1.bel.cell (p := ⟨b, off + k * 6 + 3, none⟩) hb).trans q3
      replace q4 := (V1.bel.cell (p := ⟨b, off + k * 6 + 4, none⟩) hb).trans q4
      replace q5 := (V1.bel.cell (p := ⟨b, off + k * 6 + 5, none⟩) hb).trans q5
      have hp := psum_le F (i := k + 1) (m := L) (by omega)
      simp only [psum] at hp
      have eF := hFk.out k y hy
      have hcal := kidFits_any k1 n1 t1 so ao uo sn sc an ac un uc hx (fitB d y hx) w0 wr pI pF pH pm g n (n + nds d y) V1 (mw_cell K hH hh) (fun W hW => ih y _ _ _ _ _ _ W n hv hW (by omega))
      have HP : Hid (n + nds d y ≤ m + psum F (k + 1) ∧ m + psum F (k + 1) ≤ m + psum F L) := ⟨by simp only [psum]; omega, by simp only [psum]; omega⟩
      rw [← hfk.out k y hy] at hcal
      clear hp eF hc
      cases hB : f k
      · rw [hB] at hcal
        have HNO : Hid (pall f L = false) := pall_no hlt hB
        clear hB
        go_wp2_with (go_at_call 62; (with_reducible refine hcal.mono ?_); rintro e w1 ⟨rfl, m1, n1, l1, x1⟩)
        go_ret
        exact ⟨_, rfl, by rw [HNO.out]; simp, K.trans m1, n1, Nat.le_trans l1 (Nat.le_trans HP.out.1 HP.out.2), x1⟩
      · rw [hB] at hcal
        have HB2 : Hid (f k = true) := hB
        clear hB
        go_wp2_with (go_at_call 62; (with_reducible refine hcal.mono ?_); rintro e w1 ⟨rfl, m1, n1, l1, x1⟩)
        go_roundw
        case rel => exact ⟨k + 1, n1, by omega, by go_num, K.trans m1, x1, Nat.le_trans l1 HP.out.1, fun j hj => by
          rcases Nat.lt_succ_iff_lt_or_eq.1 hj with h | h
          · exact HZ.out j h
          · rw [h]; exact HB2.out⟩
        case measure => simp [intOf]; omega
    · obtain rfl : k = L := by omega
      have t3 : decide ((k : Int) < (k : Int)) = false := by simp
      have HY : Hid (pall f k = true) := (pall_iff f k).2 HZ.out
      go_wp2
      go_ret
      exact ⟨-1, rfl, by rw [HY.out]; rfl, K, n, hn, FM⟩
set_option maxHeartbeats 1000000 in
theorem containsFits_any (d : Nat) (ks : List (Tr d)) (ko : Option Addr) (kc : Nat) (hx : Bool) (w0 w : World) (pI pF pH pm g m : Nat) (h : Fi w0 w pI pF pm g m) (hk : Kq (Tv w0 d) w0 ko ks) (hh : w.cell? ⟨pH, 0, none⟩ = some (.bool hx)) (hH : pH ≠ g) (hm : m + psum (fun i => (ks[i]?).elim 0 (nds d)) ks.length < 1000000)
    (ih : ∀ (y : Tr d) (c0 c1 c2 c3 c4 c5 : Value) (W : World) (m : Nat), Tv w0 d y [c0, c1, c2, c3, c4, c5] → Fi w0 W pI pF pm g m → m + nds d y < 1000000 → Calls Tryz.prog 55 #[.agg #[c0, c1, c2, c3, c4, c5], .bool hx, .pointer (some ⟨pI, 0, none⟩), .pointer (some ⟨pF, 0, none⟩)] W fun e w' => FiP (fitB d y hx) pm g (m + nds d y) W e w') :
    Calls Tryz.prog 61 #[.slice ko ks.length kc, .func (.func 62) #[] #[.pointer (some ⟨pF, 0, none⟩), .pointer (some ⟨pH, 0, none⟩)]] w fun e w' => FiP (!pall (fun i => (ks[i]?).elim true (fun y => fitB d y hx)) ks.length) pm g (m + psum (fun i => (ks[i]?).elim 0 (nds d)) ks.length) w e w' := by
  have hc := indexFits_any d ks ko kc hx w0 w pI pF pH pm g m h hk hh hH hm ih
  generalize pall (fun i => (ks[i]?).elim true (fun y => fitB d y hx)) ks.length = B at *
  generalize psum (fun i => (ks[i]?).elim 0 (nds d)) ks.length = N at *
  generalize ks.length = L at *
  go_enter Tryz.func61, Tryz.ntmps61
  go_wp2_with (go_at_call 93; (with_reducible refine hc.mono ?_); rintro e w6 ⟨i, rfl, hi, m6, x6⟩; have HI : Hid (decide (0 ≤ i) = !B) := hi; clear hi)
  go_ret
  exact ⟨ret_bool HI.out, m6, x6⟩
end Go.Proofs.YtiahilelcppfgaaGreat
