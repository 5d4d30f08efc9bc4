
/- Package term: counting. -/

import Derived.Test.YtiahilelcppfgaaGreatTE

import Derived.Test.YtiahilelcppfgaaGreatTM

import Derived.RangeFuncNested

import Derived.Deep.DeepCutAuto

import Derived.Deep.Cut

import Derived.Deep.RegionHeld3

namespace Go.Proofs.YtiahilelcppfgaaGreat

open Go.RowKit

set_option linter.unusedVariables false

/-- Is there room for the nodes of x behind n others, x lying at level a? -/
def cok (d : Nat) (x : Tr d) (n a : Nat) : Bool := decide (n + nds d x ≤ 4096 ∧ a + dep d x ≤ 257)
def cloS (pn pd pc : Nat) : Value := .func (.func 36) #[] #[.pointer (some ⟨pn, 0, none⟩), .pointer (some ⟨pd, 0, none⟩), .pointer (some ⟨pc, 0, none⟩)]
structure Cnt (w0 w : World) (pn pd pc n m : Nat) : Prop where
  bel : Below w0.heap.size w0 w
  ln : w0.heap.size ≤ pn
  ld : w0.heap.size ≤ pd
  ne : pn ≠ pd
  nn : pc ≠ pn
  nd : pc ≠ pd
  bn : Boxed w pn 3 (.int .i64 (n : Nat))
  bd : Boxed w pd 3 (.int .i64 (m : Nat))
  bc : w.cell? ⟨pc, 0, none⟩ = some (cloS pn pd pc)
  n4 : n ≤ 4096
  m4 : m ≤ 300
theorem Cnt.alloc {w0 w : World} {pn pd pc n m : Nat} (h : Cnt w0 w pn pd pc n m) (o : Obj) : Cnt w0 (w.alloc o) pn pd pc n m :=
  ⟨h.bel.alloc h.bel.size _, h.ln, h.ld, h.ne, h.nn, h.nd, h.bn.alloc _, h.bd.alloc _, ((box_below w o).cell (p := ⟨pc, 0, none⟩) (World.block_lt_of_cell? w _ h.bc)).trans h.bc, h.n4, h.m4⟩
/-- What a count tells. -/
def CntP (d : Nat) (x : Tr d) (pn pd n m a : Nat) (w : World) (e : Ending) (w' : World) : Prop :=
  ∃ n' m' : Nat, e = .returned (.bool (cok d x n a)) ∧ Chg (fun k => k = pn ∨ k = pd) w w' ∧ Boxed w' pn 3 (.int .i64 (n' : Nat)) ∧ Boxed w' pd 3 (.int .i64 (m' : Nat)) ∧ (cok d x n a = true → n' = n + nds d x ∧ m' = max m (a + dep d x - 1))
set_option maxHeartbeats 4000000 in
theorem count_one (d : Nat) (x : Tr (d + 1)) (v3 v4 : Value) (ko : Option Addr) (kc : Nat) (w0 w : World) (pn pd pc a n m : Nat) (h : Cnt w0 w pn pd pc n m) (hk : Kq (Tv w0 d) w0 ko x.ks) (ha : 1 ≤ a) (ha2 : a ≤ 257)
    (ih : ∀ (y : Tr d) (c0 c1 c2 c3 c4 c5 : Value) (W : World) (n m a : Nat), Tv w0 d y [c0, c1, c2, c3, c4, c5] → Cnt w0 W pn pd pc n m → 1 ≤ a → a ≤ 257 → Calls Tryz.prog 36 #[.agg #[c0, c1, c2, c3, c4, c5], .int .i64 (a : Nat), .pointer (some ⟨pn, 0, none⟩), .pointer (some ⟨pd, 0, none⟩), .pointer (some ⟨pc, 0, none⟩)] W fun e w' => CntP d y pn pd n m a W e w') :
    Calls Tryz.prog 36 #[.agg #[.int .i64 x.nd.k, .string x.nd.t, .int .i64 x.nd.n, v3, v4, .slice ko x.ks.length kc], .int .i64 (a : Nat), .pointer (some ⟨pn, 0, none⟩), .pointer (some ⟨pd, 0, none⟩), .pointer (some ⟨pc, 0, none⟩)] w fun e w' => CntP (d + 1) x pn pd n m a w e w' := by
  generalize x.nd.k = kk at *
  generalize x.nd.t = tt at *
  generalize x.nd.n = nn at *
  have h1 := h.alloc (.cells #[.int .i64 kk, .string tt, .int .i64 nn, v3, v4, .slice ko x.ks.length kc] 31)
  have cn := h.bn.cell
  have cd := h.bd.cell
  have fn := h.bn.frozen
  have fd := h.bd.frozen
  generalize hW1 : w.alloc (.cells #[.int .i64 kk, .string tt, .int .i64 nn, v3, v4, .slice ko x.ks.length kc] 31) = W1 at *
  have c1 := h1.bn.cell
  have f1 := h1.bn.frozen
  have h2 := h1.bn.set (.int .i64 ((n : Int) + 1))
  have d2 := h1.bd.other (Ne.symm h1.ne) (.int .i64 ((n : Int) + 1))
  have e2 := d2.cell
  have g2 := d2.frozen
  have w1 : IntKind.i64.wrap ((n : Int) + 1) = (n : Int) + 1 := wrT (by have := h.n4; omega) (by have := h.n4; omega)
  obtain ⟨M, hM⟩ : ∃ M : Nat, M = max m a := ⟨_, rfl⟩
  have HM : Hid (M = max m a) := hM
  have hmx : ∀ (ts : Array TypeId) (t : TypeId) (X : World), (Builtin.max_ ts t #[.int .i64 (m : Nat), .int .i64 (a : Nat)]).run Tryz.prog X = .ok (.int .i64 (M : Nat)) X := fun ts t X => by
    rw [run_max_int2, hM]
    congr 2
    split <;> omega
  clear hM
  have n3 := h2.other h1.ne (.int .i64 (M : Nat))
  have d3 := d2.set (.int .i64 (M : Nat))
  have c3 := n3.cell
  have chg : ∀ V, Chg (fun k => k = pn ∨ k = pd) ((W1.setCell ⟨pn, 0, none⟩ (.int .i64 ((n : Int) + 1))).setCell ⟨pd, 0, none⟩ (.int .i64 (M : Nat))) V → Chg (fun k => k = pn ∨ k = pd) w V := fun V hV => by
    have k1 := Chg.of_below (box_below w (.cells #[.int .i64 kk, .string tt, .int .i64 nn, v3, v4, .slice ko x.ks.length kc] 31)) (Nat.le_refl _) (fun k => k = pn ∨ k = pd)
    rw [hW1] at k1
    have k2 := (Chg.of_grown (set1 W1 pn 0 (.int .i64 ((n : Int) + 1)))).mono (S' := fun k => k = pn ∨ k = pd) (fun k _ e => by simp at e; exact .inl e.symm)
    have k3 := (Chg.of_grown (set1 (W1.setCell ⟨pn, 0, none⟩ (.int .i64 ((n : Int) + 1))) pd 0 (.int .i64 (M : Nat)))).mono (S' := fun k => k = pn ∨ k = pd) (fun k _ e => by simp at e; exact .inr e.symm)
    exact ((k1.trans k2).trans k3).trans hV
  have n4 := h.n4
  have npos : 1 ≤ nds (d + 1) x := Nat.le_add_right _ _
  have dpos : 1 ≤ dep (d + 1) x := Nat.le_add_right _ _
  by_cases hn : n = 4096
  · have t1 : decide (4096 < (n : Int) + 1) = true := by simp; omega
    have hno : cok (d + 1) x n a = false := by unfold cok; simp; omega
    have HN : Hid (n = 4096) := hn
    clear hn
    go_enter Tryz.func36, Tryz.ntmps36
    go_wp2
    go_ret
    exact ⟨n + 1, M, by rw [hno]; rfl, chg _ (Chg.refl _ _), n3, d3, fun e => by rw [hno] at e; cases e⟩
  by_cases ha3 : a = 257
  · have t1 : decide (4096 < (n : Int) + 1) = false := by simp; omega
    have t2 : decide (256 < (a : Int)) = true := by simp; omega
    have hno : cok (d + 1) x n a = false := by unfold cok; simp; omega
    have HN : Hid (a = 257) := ha3
    clear ha3
    go_enter Tryz.func36, Tryz.ntmps36
    go_wp2
    go_ret
    exact ⟨n + 1, M, by rw [hno]; rfl, chg _ (Chg.refl _ _), n3, d3, fun e => by rw [hno] at e; cases e⟩
  have t1 : decide (4096 < (n : Int) + 1) = false := by simp; omega
  have t2 : decide (256 < (a : Int)) = false := by simp; omega
  have wa : IntKind.i64.wrap ((a : Int) + 1) = (a : Int) + 1 := wrT (by omega) (by omega)
  have b5 : ((W1.setCell ⟨pn, 0, none⟩ (.int .i64 ((n : Int) + 1))).setCell ⟨pd, 0, none⟩ (.int .i64 (M : Nat))).cell? ⟨w.heap.size, 5, none⟩ = some (.slice ko x.ks.length kc) := by
    have l1 := h.bn.lt
    have l2 := h.bd.lt
    rw [← hW1]
    simp only [World.cell?]
    rw [heap_setCell_other _ _ _ _ (by simp; omega), heap_setCell_other _ _ _ _ (by simp; omega), allocNew]
    rfl
  obtain ⟨F, hF⟩ : ∃ F : Nat → Nat, F = fun i => (x.ks[i]?).elim 0 (nds d) := ⟨_, rfl⟩
  obtain ⟨G, hG⟩ : ∃ G : Nat → Nat, G = fun i => (x.ks[i]?).elim 0 (dep d) := ⟨_, rfl⟩
  have en : Hid (nds (d + 1) x = 1 + psum F x.ks.length) := by rw [hF]; exact rfl
  have ed : Hid (dep (d + 1) x = 1 + pmax G x.ks.length) := by rw [hG]; exact rfl
  have hFk : Hid (∀ i y, x.ks[i]? = some y → F i = nds d y) := fun i y e => by rw [hF]; simp only [e, Option.elim]
  have hGk : Hid (∀ i y, x.ks[i]? = some y → G i = dep d y) := fun i y e => by rw [hG]; simp only [e, Option.elim]
  clear hF hG
  have C3 : Cnt w0 ((W1.setCell ⟨pn, 0, none⟩ (.int .i64 ((n : Int) + 1))).setCell ⟨pd, 0, none⟩ (.int .i64 (M : Nat))) pn pd pc (n + 1) M := by
    refine ⟨?_, h.ln, h.ld, h.ne, h.nn, h.nd, n3, d3, ?_, by omega, by have := HM.out; have := h.m4; omega⟩
    · exact (chg _ (Chg.refl _ _)).below h.bel (fun k hk => by rcases hk with rfl | rfl; exact h.ln; exact h.ld) (Nat.le_refl _) |> fun z => z
    · have hb := h1.bc
      simp only [World.cell?] at hb ⊢
      rw [heap_setCell_other _ _ _ _ (by simpa using h.nd), heap_setCell_other _ _ _ _ (by simpa using h.nn)]
      exact hb
  have hl : x.ks.length * 104 ≤ 140737488351232 := hk.room
  have HK : Hid (Kq (Tv w0 d) w0 ko x.ks) := hk
  clear hk
  generalize hL : x.ks.length = L at *
  go_enter Tryz.func36, Tryz.ntmps36
  go_wp2
  go_loopw [24] (fun i V => ∃ k : Nat, k ≤ L ∧ i = .int .i64 (k : Nat) ∧ Cnt w0 V pn pd pc (n + 1 + psum F k) (max M (a + pmax G k)) ∧ Chg (fun k => k = pn ∨ k = pd) w V ∧ a + pmax G k ≤ 256) (fun i _ => L - (intOf i).toNat)
  case atStart => exact ⟨0, Nat.zero_le _, rfl, by have : max M (a + pmax G 0) = M := by { show max M (a + 0) = M; have := HM.out; omega }; rw [this]; exact C3, chg _ (Chg.refl _ _), by show a + 0 ≤ 256; omega⟩
  case round =>
    obtain ⟨k, hk, rfl, C, K, hd⟩ := hrel
    clear C3 b5 h1 c1 f1 h2 d2 e2 g2 n3 d3 c3 cn cd fn fd hmx w1 t1 t2
    by_cases hlt : k < L
    · have t3 : decide ((k : Int) < (L : Int)) = true := by simp; omega
      have bk : (k : Int) < (L : Int) := by omega
      obtain ⟨y, hy⟩ : ∃ y, x.ks[k]? = some y := ⟨x.ks[k]'(by omega), by simp⟩
      obtain ⟨b, off, rfl, hb, hc⟩ := HK.out.cells (by omega)
      obtain ⟨c0, c1, c2, c3, c4, c5, hv, q0, q1, q2, q3, q4, q5⟩ := hc k y hy
      obtain ⟨k1, t1, n1, so, sn, sc, ao, an, ac, uo, un, uc, ev⟩ := hv.form
      injection ev with ev0 ev
      injection ev with ev1 ev
      injection ev with ev2 ev
      injection ev with ev3 ev
      injection ev with ev4 ev
      injection ev with ev5 ev
      subst ev0 ev1 ev2 ev3 ev4 ev5
      replace q0 := (C.bel.cell (p := ⟨b, off + k * 6, none⟩) hb).trans q0
      replace q1 := (C.bel.cell (p := ⟨b, off + k * 6 + 1, none⟩) hb).trans q1
      replace q2 := (C.bel.cell (p := ⟨b, off + k * 6 + 2, none⟩) hb).trans q2
      replace q3 := (C.bel.cell (p := ⟨b, off + k * 6 + 3, none⟩) hb).trans q3
      replace q4 := (C.bel.cell (p := ⟨b, off + k * 6 + 4, none⟩) hb).trans q4
      replace q5 := (C.bel.cell (p := ⟨b, off + k * 6 + 5, none⟩) hb).trans q5
      have C4 := C.alloc (.cells #[.int .i64 k1, .string t1, .int .i64 n1, .slice so sn sc, .slice ao an ac, .slice uo un uc] 31)
      have K4 := K.trans (Chg.of_below (box_below wr (.cells #[.int .i64 k1, .string t1, .int .i64 n1, .slice so sn sc, .slice ao an ac, .slice uo un uc] 31)) (Nat.le_refl _) (fun k => k = pn ∨ k = pd))
      obtain ⟨z0, z1, z2, z3, z4, z5⟩ := box6 (allocNew wr (.cells #[.int .i64 k1, .string t1, .int .i64 n1, .slice so sn sc, .slice ao an ac, .slice uo un uc] 31))
      have zc := C4.bc
      unfold cloS at zc
      have hcal := ih y (.int .i64 k1) (.string t1) (.int .i64 n1) (.slice so sn sc) (.slice ao an ac) (.slice uo un uc) _ _ _ (a + 1) hv C4 (by omega) (by omega)
      rw [show ((a + 1 : Nat) : Int) = (a : Int) + 1 from rfl] at hcal
      have eF := hFk.out k y hy
      have eG := hGk.out k y hy
      have hp1 := psum_le F (i := k + 1) (m := L) (by omega)
      have hp2 := pmax_le G (i := k + 1) (m := L) (by omega)
      simp only [psum, pmax] at hp1 hp2
      rw [eF] at hp1
      rw [eG] at hp2
      have HP : Hid (psum F k + nds d y ≤ psum F L ∧ max (pmax G k) (dep d y) ≤ pmax G L) := ⟨hp1, hp2⟩
      have HE : Hid (F k = nds d y ∧ G k = dep d y) := ⟨eF, eG⟩
      clear hp1 hp2 eF eG hc
      by_cases hok : cok d y (n + 1 + psum F k) (a + 1) = true
      · have hcal2 := hcal.mono (R' := fun e w' => ∃ n' m' : Nat, e = .returned (.bool true) ∧ Chg (fun k => k = pn ∨ k = pd) (wr.alloc (.cells #[.int .i64 k1, .string t1, .int .i64 n1, .slice so sn sc, .slice ao an ac, .slice uo un uc] 31)) w' ∧ Boxed w' pn 3 (.int .i64 (n' : Nat)) ∧ Boxed w' pd 3 (.int .i64 (m' : Nat)) ∧ n' = n + 1 + psum F k + nds d y ∧ m' = max (max M (a + pmax G k)) (a + 1 + dep d y - 1)) (by
          rintro e w' ⟨n', m', rfl, h1, h2, h3, h4⟩
          obtain ⟨h5, h6⟩ := h4 hok
          exact ⟨n', m', by rw [hok], h1, h2, h3, h5, h6⟩)
        clear hcal
        have HO : Hid (n + 1 + psum F k + nds d y ≤ 4096 ∧ a + 1 + dep d y ≤ 257) := by unfold cok at hok; show _ ∧ _; exact of_decide_eq_true hok
        clear hok
        go_wp2_with (first
          | (go_at_call 36; (with_reducible refine hcal2.mono ?_); rintro e w5 ⟨n5, m5, rfl, K5, bn5, bd5, e5, e6⟩
             have E5 : Hid (n5 = n + 1 + psum F k + nds d y ∧ m5 = max (max M (a + pmax G k)) (a + 1 + dep d y - 1)) := ⟨e5, e6⟩
             clear e5 e6))
        go_roundw
        case rel =>
          have hE := HE.out
          have hO := HO.out
          have h5 := E5.out
          have s1 : psum F (k + 1) = psum F k + nds d y := by simp only [psum]; rw [hE.1]
          have s2 : pmax G (k + 1) = max (pmax G k) (dep d y) := by simp only [pmax]; rw [hE.2]
          refine ⟨k + 1, by omega, by go_num, ?_, K4.trans K5, by rw [s2]; omega⟩
          have i1 : n + 1 + psum F (k + 1) = n5 := by rw [s1]; omega
          have i2 : max M (a + pmax G (k + 1)) = m5 := by rw [s2]; omega
          rw [i1, i2]
          refine ⟨K5.below C4.bel (fun k hk => by rcases hk with rfl | rfl; exact C4.ln; exact C4.ld) (Nat.le_refl _), C4.ln, C4.ld, C4.ne, C4.nn, C4.nd, bn5, bd5, ?_, by omega, by have := C.m4; omega⟩
          have lc := World.block_lt_of_cell? _ _ C4.bc
          have := K5.block pc lc (by have := C4.nn; have := C4.nd; omega)
          have hz := C4.bc
          simp only [World.cell?] at hz ⊢
          rw [this]; exact hz
        case measure => simp [intOf]; omega
      · have hok' : cok d y (n + 1 + psum F k) (a + 1) = false := by simpa using hok
        have hcal2 := hcal.mono (R' := fun e w' => ∃ n' m' : Nat, e = .returned (.bool false) ∧ Chg (fun k => k = pn ∨ k = pd) (wr.alloc (.cells #[.int .i64 k1, .string t1, .int .i64 n1, .slice so sn sc, .slice ao an ac, .slice uo un uc] 31)) w' ∧ Boxed w' pn 3 (.int .i64 (n' : Nat)) ∧ Boxed w' pd 3 (.int .i64 (m' : Nat))) (by
          rintro e w' ⟨n', m', rfl, h1, h2, h3, h4⟩
          exact ⟨n', m', by rw [hok'], h1, h2, h3⟩)
        clear hcal hok
        have hno : cok (d + 1) x n a = false := by
          unfold cok at hok' ⊢
          have e1 := en.out
          have e2 := ed.out
          have e3 := HP.out
          simp only [decide_eq_false_iff_not] at hok' ⊢
          omega
        clear hok'
        go_wp2_with (first
          | (go_at_call 36; (with_reducible refine hcal2.mono ?_); rintro e w5 ⟨n5, m5, rfl, K5, bn5, bd5⟩))
        go_ret
        exact ⟨n5, m5, by rw [hno]; rfl, K4.trans K5, bn5, bd5, fun e => by rw [hno] at e; cases e⟩
    · obtain rfl : k = L := by omega
      have t3 : decide ((k : Int) < (k : Int)) = false := by simp
      go_wp2
      go_ret
      have e1 := en.out
      have e2 := ed.out
      have c4 := C.n4
      have hyes : cok (d + 1) x n a = true := by unfold cok; simp only [decide_eq_true_eq]; omega
      exact ⟨_, _, by rw [hyes]; rfl, K, C.bn, C.bd, fun _ => ⟨by omega, by have := HM.out; omega⟩⟩
end Go.Proofs.YtiahilelcppfgaaGreat
