
/- Package term: does all fit? A node. -/

import Derived.Test.YtiahilelcppfgaaGreatTN

import Derived.Test.YtiahilelcppfgaaGreatTD

namespace Go.Proofs.YtiahilelcppfgaaGreat

open Go.RowKit Go.Maps

set_option linter.unusedVariables false

/-- What allFit's closure knows under way: its own two boxes besides. -/
structure Fx (w0 w V : World) (pI pF pm g m s : Nat) (cs : Array Value) (h : Bool) : Prop where
  fi : Fi w0 V pI pF pm g m
  mw : Mw g w V
  rt : V.heap[s]? = some (.cells cs 31 (0, 0))
  rh : V.heap[s + 1]? = some (.cells #[.bool h] 4 (0, 0))
  ns : s ≠ g
  nh : s + 1 ≠ g
theorem Fx.chg {w0 w V V' : World} {pI pF pm g m m' s : Nat} {cs : Array Value} {h : Bool} (x : Fx w0 w V pI pF pm g m s cs h) (k : Mw g V V') (f : Fm V' pm g m') : Fx w0 w V' pI pF pm g m' s cs h :=
  ⟨x.fi.chg k f, x.mw.trans k, by rw [k.block s (Array.getElem?_eq_some_iff.1 x.rt).1 x.ns]; exact x.rt, by rw [k.block (s + 1) (Array.getElem?_eq_some_iff.1 x.rh).1 x.nh]; exact x.rh, x.ns, x.nh⟩
theorem Fx.below {B : Nat} {w0 w V V' : World} {pI pF pm g m s : Nat} {cs : Array Value} {h : Bool} (x : Fx w0 w V pI pF pm g m s cs h) (b : Below B V V') (hB : V.heap.size ≤ B) : Fx w0 w V' pI pF pm g m s cs h := x.chg (Mw.of_below b hB) (x.fi.fm.below b hB)
theorem Fx.boxH {w0 w V : World} {pI pF pm g m s : Nat} {cs : Array Value} {h : Bool} (x : Fx w0 w V pI pF pm g m s cs h) : Boxed V (s + 1) 4 (.bool h) := x.rh
theorem Fx.set {w0 w V : World} {pI pF pm g m s : Nat} {cs : Array Value} {h : Bool} (x : Fx w0 w V pI pF pm g m s cs h) (h' : Bool) (hs : w.heap.size ≤ s) (hg : pI ≠ s + 1 ∧ pF ≠ s + 1 ∧ pm ≠ s + 1 ∧ w0.heap.size ≤ s) : Fx w0 w (V.setCell ⟨s + 1, 0, none⟩ (.bool h')) pI pF pm g m s cs h' := by
  have st := set1 V (s + 1) 0 (.bool h')
  have cell : ∀ p v, p ≠ s + 1 → V.cell? ⟨p, 0, none⟩ = some v → (V.setCell ⟨s + 1, 0, none⟩ (.bool h')).cell? ⟨p, 0, none⟩ = some v := fun p v hp hv => by
    have l := World.block_lt_of_cell? V _ hv
    simp only [World.cell?] at hv ⊢
    rw [st.block p l (fun e => by cases e; exact hp rfl)]
    exact hv
  have own : ∃ D : DataW Unit, (V.setCell ⟨s + 1, 0, none⟩ (.bool h')).ownsMap Tryz.prog 9 (plainElem Tryz.prog 3) g m D ∧ IsMap D ∧ ∀ l : List UInt8, has D (.string l) = true → has (spD 43) (.string l) = true := by
    obtain ⟨D, ⟨es, clock, e1, e2⟩, hm, hh⟩ := x.fi.fm.own
    exact ⟨D, ⟨es, clock, by rw [st.block g x.fi.fm.lt (fun e => by cases e; exact x.nh rfl)]; exact e1, e2⟩, hm, hh⟩
  refine ⟨⟨below_set1 0 _ x.fi.bel (by omega) (Nat.le_refl _), x.fi.lg, cell _ _ hg.1 x.fi.cI, cell _ _ hg.2.1 x.fi.cF, x.fi.nI, x.fi.nF, ⟨cell _ _ hg.2.2.1 x.fi.fm.box, x.fi.fm.ne, x.fi.fm.few, own⟩⟩, ?_, ?_, ?_, x.ns, x.nh⟩
  · refine ⟨st.os.trans x.mw.os, st.tape.trans x.mw.tape, st.output.trans x.mw.output, Nat.le_trans x.mw.size st.size, fun j hj hn => ?_⟩
    rw [st.block j (Nat.lt_of_lt_of_le hj x.mw.size) (fun e => by cases e; omega)]
    exact x.mw.block j hj hn
  · rw [st.block s (Array.getElem?_eq_some_iff.1 x.rt).1 (fun e => by injection e with e; omega)]
    exact x.rt
  · exact x.boxH.set _
set_option linter.unusedSimpArgs false in
set_option maxHeartbeats 8000000 in
theorem fits_one (d : Nat) (x : Tr (d + 1)) (so ao ko : Option Addr) (sn sc an ac kn kc : Nat) (k n : Int) (t : ByteArray) (hkn : x.ks.length = kn) (ek : x.nd.k = k) (et : x.nd.t = t) (en : x.nd.n = n) (h : Bool) (w0 w : World) (pI pF pm g m : Nat) (hF : Fi w0 w pI pF pm g m) (hs : Rd w0 so sn x.nd.sh) (ha : Rd w0 ao an x.nd.at') (hk : Kq (Tv w0 d) w0 ko x.ks) (ht : t.size ≤ 140737488355328) (hm : m + nds (d + 1) x < 1000000) (hI : w0.heap.size ≤ pI ∧ w0.heap.size ≤ pF)
    (ih : ∀ (hx : Bool) (y : Tr d) (c0 c1 c2 c3 c4 c5 : Value) (W : World) (m : Nat), Tv w0 d y [c0, c1, c2, c3, c4, c5] → Fi w0 W pI pF pm g m → m + nds d y < 1000000 → Calls Tryz.prog 55 #[.agg #[c0, c1, c2, c3, c4, c5], .bool hx, .pointer (some ⟨pI, 0, none⟩), .pointer (some ⟨pF, 0, none⟩)] W fun e w' => FiP (fitB d y hx) pm g (m + nds d y) W e w') :
    Calls Tryz.prog 55 #[.agg #[.int .i64 k, .string t, .int .i64 n, .slice so sn sc, .slice ao an ac, .slice ko kn kc], .bool h, .pointer (some ⟨pI, 0, none⟩), .pointer (some ⟨pF, 0, none⟩)] w fun e w' => FiP (fitB (d + 1) x h) pm g (m + nds (d + 1) x) w e w' := by
  have lI := World.block_lt_of_cell? w _ hF.cI
  have lF := World.block_lt_of_cell? w _ hF.cF
  have lM := World.block_lt_of_cell? w _ hF.fm.box
  have lG := hF.fm.lt
  have l0 := hF.bel.size
  have k0 := box_below w (.cells #[.int .i64 k, .string t, .int .i64 n, .slice so sn sc, .slice ao an ac, .slice ko kn kc] 31)
  have k1 := box_below (w.alloc (.cells #[.int .i64 k, .string t, .int .i64 n, .slice so sn sc, .slice ao an ac, .slice ko kn kc] 31)) (.cells #[.bool h] 4)
  have X0 : Fx w0 w ((w.alloc (.cells #[.int .i64 k, .string t, .int .i64 n, .slice so sn sc, .slice ao an ac, .slice ko kn kc] 31)).alloc (.cells #[.bool h] 4)) pI pF pm g m w.heap.size #[.int .i64 k, .string t, .int .i64 n, .slice so sn sc, .slice ao an ac, .slice ko kn kc] h := by
    refine ⟨(hF.alloc _).alloc _, (Mw.of_below k0 (Nat.le_refl _)).trans (Mw.of_below k1 (Nat.le_refl _)), ?_, ?_, by omega, by omega⟩
    · rw [k1.block w.heap.size (by simp)]; exact allocNew _ _
    · have := allocNew (w.alloc (.cells #[.int .i64 k, .string t, .int .i64 n, .slice so sn sc, .slice ao an ac, .slice ko kn kc] 31)) (.cells #[.bool h] 4)
      rw [World.size_alloc] at this
      exact this
  have npos : 1 ≤ nds (d + 1) x := Nat.le_add_right _ _
  have eN : nds (d + 1) x = 1 + psum (fun i => (x.ks[i]?).elim 0 (nds d)) kn := by rw [← hkn]; exact rfl
  have eB : fitB (d + 1) x h = ((txB k t && (numB k n && (arrB k x.nd.sh x.nd.at' && kidB k kn (kin d x.ks)))) && ((h || !spk k t) && pall (fun i => (x.ks[i]?).elim true (fun y => fitB d y (if k = 23 then decide (n = 2) else h))) kn)) := by rw [← hkn, ← ek, ← et, ← en]; exact rfl
  have hT := textFits_any k n t so ao ko sn sc an ac kn kc pm g m ((w.alloc (.cells #[.int .i64 k, .string t, .int .i64 n, .slice so sn sc, .slice ao an ac, .slice ko kn kc] 31)).alloc (.cells #[.bool h] 4)) ht X0.fi.fm (by omega)
  have hNu := fun W => numberFits_any k n t so ao ko sn sc an ac kn kc W
  have hAr := fun V (b : Below w0.heap.size w0 V) => arrayFits_any k n t so ao ko sn sc an ac kn kc x.nd.sh x.nd.at' V (hs.below b (Nat.le_refl _)) (ha.below b (Nat.le_refl _))
  have hKi := fun V (b : Below w0.heap.size w0 V) => kidsFit_any k t n so ao ko sn sc an ac kn kc (kin d x.ks) V (by have := (hk.kf).below b (Nat.le_refl _); rwa [hkn] at this)
  have hSp := fun W => speaksOfX_any k n t so ao ko sn sc an ac kn kc W
  have hCo := fun (hx : Bool) (V : World) (pH m : Nat) (X : Fi w0 V pI pF pm g m) (hh : V.cell? ⟨pH, 0, none⟩ = some (.bool hx)) (hH : pH ≠ g) (hm : m + psum (fun i => (x.ks[i]?).elim 0 (nds d)) x.ks.length < 1000000) => containsFits_any d x.ks ko kc hx w0 V pI pF pH pm g m X hk hh hH hm (ih hx)
  rw [hkn] at hCo
  clear hs ha hk ih ek et en
  rw [eB]
  have hN2 : Hid (nds (d + 1) x = 1 + psum (fun i => (x.ks[i]?).elim 0 (nds d)) kn) := eN
  rw [eN] at hm
  rw [eN]
  clear eB eN npos
  generalize psum (fun i => (x.ks[i]?).elim 0 (nds d)) kn = N at *
  generalize txB k t = T at *
  generalize numB k n = Nu at *
  generalize arrB k x.nd.sh x.nd.at' = Ar at *
  generalize kidB k kn (kin d x.ks) = Ki at *
  generalize spk k t = S at *
  have x0 := X0.fi.cI
  unfold cloP at x0 hT
  obtain ⟨q0, q1, q2, q3, q4, q5⟩ := box6 X0.rt
  clear hF k0 k1
  cases T
  · simp only [Bool.false_and, Bool.and_false, Bool.true_and]
    clear hCo hSp
    go_enter Tryz.func55, Tryz.ntmps55
    go_wp2_with (first
      | (go_at_call 56; (with_reducible refine hT.mono ?_); rintro e w1 ⟨rfl, m1, n1, l1, x1⟩; have X1 := X0.chg m1 x1; obtain ⟨r10, r11, r12, r13, r14, r15⟩ := box6 X1.rt))
    go_ret
    exact ⟨rfl, X1.mw, n1, by omega, X1.fi.fm⟩
  cases Nu
  · simp only [Bool.false_and, Bool.and_false, Bool.true_and]
    clear hCo hSp
    go_enter Tryz.func55, Tryz.ntmps55
    go_wp2_with (first
      | (go_at_call 56; (with_reducible refine hT.mono ?_); rintro e w1 ⟨rfl, m1, n1, l1, x1⟩; have X1 := X0.chg m1 x1; obtain ⟨r10, r11, r12, r13, r14, r15⟩ := box6 X1.rt)
      | (go_at_call 57; (with_reducible refine (hNu _).mono ?_); rintro e w2 ⟨rfl, b2⟩; have X2 := X1.below b2 (Nat.le_refl _); obtain ⟨r20, r21, r22, r23, r24, r25⟩ := box6 X2.rt))
    go_ret
    exact ⟨rfl, X2.mw, n1, by omega, X2.fi.fm⟩
  cases Ar
  · simp only [Bool.false_and, Bool.and_false, Bool.true_and]
    clear hCo hSp
    go_enter Tryz.func55, Tryz.ntmps55
    go_wp2_with (first
      | (go_at_call 56; (with_reducible refine hT.mono ?_); rintro e w1 ⟨rfl, m1, n1, l1, x1⟩; have X1 := X0.chg m1 x1; obtain ⟨r10, r11, r12, r13, r14, r15⟩ := box6 X1.rt)
      | (go_at_call 57; (with_reducible refine (hNu _).mono ?_); rintro e w2 ⟨rfl, b2⟩; have X2 := X1.below b2 (Nat.le_refl _); obtain ⟨r20, r21, r22, r23, r24, r25⟩ := box6 X2.rt)
      | (go_at_call 58; (with_reducible refine (hAr _ X2.fi.bel).mono ?_); rintro e w3 ⟨rfl, b3⟩; have X3 := X2.below b3 (Nat.le_refl _); obtain ⟨r30, r31, r32, r33, r34, r35⟩ := box6 X3.rt))
    go_ret
    exact ⟨rfl, X3.mw, n1, by omega, X3.fi.fm⟩
  cases Ki
  · simp only [Bool.false_and, Bool.and_false, Bool.true_and]
    clear hCo hSp
    go_enter Tryz.func55, Tryz.ntmps55
    go_wp2_with (first
      | (go_at_call 56; (with_reducible refine hT.mono ?_); rintro e w1 ⟨rfl, m1, n1, l1, x1⟩; have X1 := X0.chg m1 x1; obtain ⟨r10, r11, r12, r13, r14, r15⟩ := box6 X1.rt)
      | (go_at_call 57; (with_reducible refine (hNu _).mono ?_); rintro e w2 ⟨rfl, b2⟩; have X2 := X1.below b2 (Nat.le_refl _); obtain ⟨r20, r21, r22, r23, r24, r25⟩ := box6 X2.rt)
      | (go_at_call 58; (with_reducible refine (hAr _ X2.fi.bel).mono ?_); rintro e w3 ⟨rfl, b3⟩; have X3 := X2.below b3 (Nat.le_refl _); obtain ⟨r30, r31, r32, r33, r34, r35⟩ := box6 X3.rt)
      | (go_at_call 59; (with_reducible refine (hKi _ X3.fi.bel).mono ?_); rintro e w4 ⟨rfl, b4⟩; have X4 := X3.below b4 (Nat.le_refl _); obtain ⟨r40, r41, r42, r43, r44, r45⟩ := box6 X4.rt; have y4 := X4.boxH.cell; have z4 := X4.boxH.frozen))
    go_ret
    exact ⟨rfl, X4.mw, n1, by omega, X4.fi.fm⟩
  simp only [Bool.true_and]
  cases h
  · cases S
    · simp only [Bool.false_or, Bool.not_false, Bool.true_and]
      by_cases g23 : k = 23
      · have e23 : (k == 23) = true := by simp [g23]
        rw [if_pos g23]
        have hd : (n == 2) = decide (n = 2) := by by_cases hh : n = 2 <;> simp [hh]
        rw [← hd]
        clear g23 hd
        have hC := hCo (n == 2)
        generalize pall (fun i => (x.ks[i]?).elim true (fun y => fitB d y (n == 2))) kn = P at hC ⊢
        go_enter Tryz.func55, Tryz.ntmps55
        go_wp2_with (first
          | (go_at_call 56; (with_reducible refine hT.mono ?_); rintro e w1 ⟨rfl, m1, n1, l1, x1⟩; have X1 := X0.chg m1 x1; obtain ⟨r10, r11, r12, r13, r14, r15⟩ := box6 X1.rt)
          | (go_at_call 57; (with_reducible refine (hNu _).mono ?_); rintro e w2 ⟨rfl, b2⟩; have X2 := X1.below b2 (Nat.le_refl _); obtain ⟨r20, r21, r22, r23, r24, r25⟩ := box6 X2.rt)
          | (go_at_call 58; (with_reducible refine (hAr _ X2.fi.bel).mono ?_); rintro e w3 ⟨rfl, b3⟩; have X3 := X2.below b3 (Nat.le_refl _); obtain ⟨r30, r31, r32, r33, r34, r35⟩ := box6 X3.rt)
          | (go_at_call 59; (with_reducible refine (hKi _ X3.fi.bel).mono ?_); rintro e w4 ⟨rfl, b4⟩; have X4 := X3.below b4 (Nat.le_refl _); obtain ⟨r40, r41, r42, r43, r44, r45⟩ := box6 X4.rt; have y4 := X4.boxH.cell; have z4 := X4.boxH.frozen)
          | (go_at_call 60; (with_reducible refine (hSp _).mono ?_); rintro e w5 ⟨rfl, b5⟩; have X5 := X4.below b5 (Nat.le_refl _); obtain ⟨r50, r51, r52, r53, r54, r55⟩ := box6 X5.rt; have y5 := X5.boxH.cell; have z5 := X5.boxH.frozen)
          | (go_at_call 61; (have XS := X5.set (n == 2) (Nat.le_refl _) (by have := hI; have := l0; omega)); (with_reducible refine (hC _ (w.heap.size + 1) n1 XS.fi XS.boxH.cell XS.nh (by omega)).mono ?_); rintro e w7 ⟨rfl, m7, n7, l7, x7⟩))
        go_ret
        exact ⟨ret_bool (by simp), (XS.mw.trans m7), n7, by omega, x7⟩
      have e23 : (k == 23) = false := by simp [g23]
      rw [if_neg g23]
      clear g23
      have hC := hCo false
      generalize pall (fun i => (x.ks[i]?).elim true (fun y => fitB d y false)) kn = P at hC ⊢
      go_enter Tryz.func55, Tryz.ntmps55
      go_wp2_with (first
        | (go_at_call 56; (with_reducible refine hT.mono ?_); rintro e w1 ⟨rfl, m1, n1, l1, x1⟩; have X1 := X0.chg m1 x1; obtain ⟨r10, r11, r12, r13, r14, r15⟩ := box6 X1.rt)
        | (go_at_call 57; (with_reducible refine (hNu _).mono ?_); rintro e w2 ⟨rfl, b2⟩; have X2 := X1.below b2 (Nat.le_refl _); obtain ⟨r20, r21, r22, r23, r24, r25⟩ := box6 X2.rt)
        | (go_at_call 58; (with_reducible refine (hAr _ X2.fi.bel).mono ?_); rintro e w3 ⟨rfl, b3⟩; have X3 := X2.below b3 (Nat.le_refl _); obtain ⟨r30, r31, r32, r33, r34, r35⟩ := box6 X3.rt)
        | (go_at_call 59; (with_reducible refine (hKi _ X3.fi.bel).mono ?_); rintro e w4 ⟨rfl, b4⟩; have X4 := X3.below b4 (Nat.le_refl _); obtain ⟨r40, r41, r42, r43, r44, r45⟩ := box6 X4.rt; have y4 := X4.boxH.cell; have z4 := X4.boxH.frozen)
        | (go_at_call 60; (with_reducible refine (hSp _).mono ?_); rintro e w5 ⟨rfl, b5⟩; have X5 := X4.below b5 (Nat.le_refl _); obtain ⟨r50, r51, r52, r53, r54, r55⟩ := box6 X5.rt; have y5 := X5.boxH.cell; have z5 := X5.boxH.frozen)
        | (go_at_call 61; (with_reducible refine (hC _ (w.heap.size + 1) n1 X5.fi X5.boxH.cell X5.nh (by omega)).mono ?_); rintro e w7 ⟨rfl, m7, n7, l7, x7⟩))
      go_ret
      exact ⟨ret_bool (by simp), (X5.mw.trans m7), n7, by omega, x7⟩
    · simp only [Bool.false_or, Bool.not_true, Bool.false_and]
      clear hCo
      go_enter Tryz.func55, Tryz.ntmps55
      go_wp2_with (first
        | (go_at_call 56; (with_reducible refine hT.mono ?_); rintro e w1 ⟨rfl, m1, n1, l1, x1⟩; have X1 := X0.chg m1 x1; obtain ⟨r10, r11, r12, r13, r14, r15⟩ := box6 X1.rt)
        | (go_at_call 57; (with_reducible refine (hNu _).mono ?_); rintro e w2 ⟨rfl, b2⟩; have X2 := X1.below b2 (Nat.le_refl _); obtain ⟨r20, r21, r22, r23, r24, r25⟩ := box6 X2.rt)
        | (go_at_call 58; (with_reducible refine (hAr _ X2.fi.bel).mono ?_); rintro e w3 ⟨rfl, b3⟩; have X3 := X2.below b3 (Nat.le_refl _); obtain ⟨r30, r31, r32, r33, r34, r35⟩ := box6 X3.rt)
        | (go_at_call 59; (with_reducible refine (hKi _ X3.fi.bel).mono ?_); rintro e w4 ⟨rfl, b4⟩; have X4 := X3.below b4 (Nat.le_refl _); obtain ⟨r40, r41, r42, r43, r44, r45⟩ := box6 X4.rt; have y4 := X4.boxH.cell; have z4 := X4.boxH.frozen)
        | (go_at_call 60; (with_reducible refine (hSp _).mono ?_); rintro e w5 ⟨rfl, b5⟩; have X5 := X4.below b5 (Nat.le_refl _); obtain ⟨r50, r51, r52, r53, r54, r55⟩ := box6 X5.rt; have y5 := X5.boxH.cell; have z5 := X5.boxH.frozen))
      go_ret
      exact ⟨rfl, X5.mw, n1, by omega, X5.fi.fm⟩
  · simp only [Bool.true_or, Bool.true_and]
    clear hSp
    by_cases g23 : k = 23
    · have e23 : (k == 23) = true := by simp [g23]
      rw [if_pos g23]
      have hd : (n == 2) = decide (n = 2) := by by_cases hh : n = 2 <;> simp [hh]
      rw [← hd]
      clear g23 hd
      have hC := hCo (n == 2)
      generalize pall (fun i => (x.ks[i]?).elim true (fun y => fitB d y (n == 2))) kn = P at hC ⊢
      go_enter Tryz.func55, Tryz.ntmps55
      go_wp2_with (first
        | (go_at_call 56; (with_reducible refine hT.mono ?_); rintro e w1 ⟨rfl, m1, n1, l1, x1⟩; have X1 := X0.chg m1 x1; obtain ⟨r10, r11, r12, r13, r14, r15⟩ := box6 X1.rt)
        | (go_at_call 57; (with_reducible refine (hNu _).mono ?_); rintro e w2 ⟨rfl, b2⟩; have X2 := X1.below b2 (Nat.le_refl _); obtain ⟨r20, r21, r22, r23, r24, r25⟩ := box6 X2.rt)
        | (go_at_call 58; (with_reducible refine (hAr _ X2.fi.bel).mono ?_); rintro e w3 ⟨rfl, b3⟩; have X3 := X2.below b3 (Nat.le_refl _); obtain ⟨r30, r31, r32, r33, r34, r35⟩ := box6 X3.rt)
        | (go_at_call 59; (with_reducible refine (hKi _ X3.fi.bel).mono ?_); rintro e w4 ⟨rfl, b4⟩; have X4 := X3.below b4 (Nat.le_refl _); obtain ⟨r40, r41, r42, r43, r44, r45⟩ := box6 X4.rt; have y4 := X4.boxH.cell; have z4 := X4.boxH.frozen)
        | (go_at_call 61; (have XS := X4.set (n == 2) (Nat.le_refl _) (by have := hI; have := l0; omega)); (with_reducible refine (hC _ (w.heap.size + 1) n1 XS.fi XS.boxH.cell XS.nh (by omega)).mono ?_); rintro e w7 ⟨rfl, m7, n7, l7, x7⟩))
      go_ret
      exact ⟨ret_bool (by simp), (XS.mw.trans m7), n7, by omega, x7⟩
    have e23 : (k == 23) = false := by simp [g23]
    rw [if_neg g23]
    clear g23
    have hC := hCo true
    generalize pall (fun i => (x.ks[i]?).elim true (fun y => fitB d y true)) kn = P at hC ⊢
    go_enter Tryz.func55, Tryz.ntmps55
    go_wp2_with (first
      | (go_at_call 56; (with_reducible refine hT.mono ?_); rintro e w1 ⟨rfl, m1, n1, l1, x1⟩; have X1 := X0.chg m1 x1; obtain ⟨r10, r11, r12, r13, r14, r15⟩ := box6 X1.rt)
      | (go_at_call 57; (with_reducible refine (hNu _).mono ?_); rintro e w2 ⟨rfl, b2⟩; have X2 := X1.below b2 (Nat.le_refl _); obtain ⟨r20, r21, r22, r23, r24, r25⟩ := box6 X2.rt)
      | (go_at_call 58; (with_reducible refine (hAr _ X2.fi.bel).mono ?_); rintro e w3 ⟨rfl, b3⟩; have X3 := X2.below b3 (Nat.le_refl _); obtain ⟨r30, r31, r32, r33, r34, r35⟩ := box6 X3.rt)
      | (go_at_call 59; (with_reducible refine (hKi _ X3.fi.bel).mono ?_); rintro e w4 ⟨rfl, b4⟩; have X4 := X3.below b4 (Nat.le_refl _); obtain ⟨r40, r41, r42, r43, r44, r45⟩ := box6 X4.rt; have y4 := X4.boxH.cell; have z4 := X4.boxH.frozen)
      | (go_at_call 61; (with_reducible refine (hC _ (w.heap.size + 1) n1 X4.fi X4.boxH.cell X4.nh (by omega)).mono ?_); rintro e w7 ⟨rfl, m7, n7, l7, x7⟩))
    go_ret
    exact ⟨ret_bool (by simp), (X4.mw.trans m7), n7, by omega, x7⟩
end Go.Proofs.YtiahilelcppfgaaGreat
