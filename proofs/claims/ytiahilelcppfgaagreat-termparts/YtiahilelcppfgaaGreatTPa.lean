
/- TermParts: the walk. -/

import Derived.Test.YtiahilelcppfgaaGreatTZ

import Derived.Test.YtiahilelcppfgaaGreatYTr

namespace Go.Proofs.YtiahilelcppfgaaGreat

open Go.RowKit

set_option linter.unusedVariables false

theorem clsN_cases (k : Int) : clsN k = 0 ∨ clsN k = 1 ∨ clsN k = 2 ∨ clsN k = 3 := by
  unfold clsN
  split
  · exact .inr (.inl rfl)
  split
  · exact .inr (.inr (.inl rfl))
  split
  · exact .inr (.inr (.inr rfl))
  · exact .inl rfl
/-- What May tells of a term's own class. -/
theorem may_own (d : Nat) (x : Tr d) (h : clsN (root d x).k ≠ 0) : mayT d x (clsN (root d x).k) = if szO d x = false then 2 else if fitB d x true = false then 33 else 0 := by
  unfold mayT
  rw [if_neg (by have := clsN_cases (root d x).k; omega)]
  split
  · rfl
  split
  · rfl
  · rw [if_neg (by simp)]
theorem may_0 (d : Nat) (x : Tr d) : mayT d x 0 = 1 := by
  unfold mayT
  rw [if_pos ⟨by omega, by omega, by omega⟩]
theorem kid_facts (d : Nat) (x : Tr (d + 1)) (ho : szO (d + 1) x = true) (hf : fitB (d + 1) x true = true) (i : Nat) (y : Tr d) (hy : x.ks[i]? = some y) :
    szN d y = nds d y ∧ szD d y = dep d y ∧ clsN (root d y).k ≠ 0 ∧ (x.nd.k ≠ 23 → mayT d y (clsN (root d y).k) = 0) := by
  have hi : i < x.ks.length := (List.getElem?_eq_some_iff.1 hy).1
  have hd := of_decide_eq_true (show decide (nds (d + 1) x ≤ 4096 ∧ dep (d + 1) x ≤ 256) = true from ho)
  obtain ⟨F, hF⟩ : ∃ F : Nat → Nat, F = fun i => (x.ks[i]?).elim 0 (nds d) := ⟨_, rfl⟩
  obtain ⟨G, hG⟩ : ∃ G : Nat → Nat, G = fun i => (x.ks[i]?).elim 0 (dep d) := ⟨_, rfl⟩
  have en : nds (d + 1) x = 1 + psum F x.ks.length := by rw [hF]; exact rfl
  have ed : dep (d + 1) x = 1 + pmax G x.ks.length := by rw [hG]; exact rfl
  have eF : F i = nds d y := by rw [hF]; simp only [hy, Option.elim]
  have eG : G i = dep d y := by rw [hG]; simp only [hy, Option.elim]
  have p1 := psum_le F (i := i + 1) (m := x.ks.length) hi
  have p2 := pmax_le G (i := i + 1) (m := x.ks.length) hi
  simp only [psum, pmax] at p1 p2
  rw [eF] at p1
  rw [eG] at p2
  rw [en, ed] at hd
  have hoy : szO d y = true := by
    unfold szO
    apply decide_eq_true
    omega
  clear hF hG
  have e : fitB (d + 1) x true = ((txB x.nd.k x.nd.t && (numB x.nd.k x.nd.n && (arrB x.nd.k x.nd.sh x.nd.at' && kidB x.nd.k x.ks.length (kin d x.ks)))) && ((true || !spk x.nd.k x.nd.t) && pall (fun i => (x.ks[i]?).elim true (fun y => fitB d y (if x.nd.k = 23 then decide (x.nd.n = 2) else true))) x.ks.length)) := rfl
  rw [e] at hf
  simp only [Bool.and_eq_true] at hf
  have hk := kidB_cls hf.1.2.2.2 i hi
  have ek : kin d x.ks i = ((root d y).k, (root d y).t) := by unfold kin; rw [hy]; rfl
  rw [ek] at hk
  have hp := (pall_iff _ _).1 hf.2.2 i hi
  simp only [hy, Option.elim] at hp
  refine ⟨by unfold szN; rw [if_pos hoy], by unfold szD; rw [if_pos hoy], hk, fun h23 => ?_⟩
  rw [if_neg h23] at hp
  rw [may_own d y hk, hoy, hp]
  rfl
set_option linter.unusedSimpArgs false in
set_option maxHeartbeats 8000000 in
set_option maxRecDepth 100000 in
theorem parts_one (d : Nat) (x : Tr (d + 1)) (k n : Int) (t : ByteArray) (so ao ko : Option Addr) (sn sc an ac L kc : Nat) (w : World) (h : Tv w (d + 1) x [.int .i64 k, .string t, .int .i64 n, .slice so sn sc, .slice ao an ac, .slice ko L kc]) (hL : x.ks.length = L) (ek : x.nd.k = k) (hk : Kq (Tv w d) w ko x.ks) :
    Calls Tryz.prog 5 #[.agg #[.int .i64 k, .string t, .int .i64 n, .slice so sn sc, .slice ao an ac, .slice ko L kc]] w fun e w' => e = .returned (.bool true) ∧ Below w.heap.size w w' := by
  have k0 := box_below w (.cells #[.int .i64 k, .string t, .int .i64 n, .slice so sn sc, .slice ao an ac, .slice ko L kc] 31)
  have r0 := allocNew w (.cells #[.int .i64 k, .string t, .int .i64 n, .slice so sn sc, .slice ao an ac, .slice ko L kc] 31)
  have hbg := begun13_any (w.alloc (.cells #[.int .i64 k, .string t, .int .i64 n, .slice so sn sc, .slice ao an ac, .slice ko L kc] 31))
  have hcl := fun W => class_any k n t (.slice so sn sc) (.slice ao an ac) (.slice ko L kc) W
  have hmy := fun c V (b : Below w.heap.size w V) => tmay_any (d + 1) x _ _ _ _ _ _ c V (Tv.below b (Nat.le_refl _) _ _ _ h)
  have hsz := fun V (b : Below w.heap.size w V) => tsize_any (d + 1) x _ _ _ _ _ _ V (Tv.below b (Nat.le_refl _) _ _ _ h)
  have er : (root (d + 1) x).k = k := ek
  by_cases h0 : clsN k = 0
  · have hm0 := may_0 (d + 1) x
    rw [h0] at hcl
    have hmy0 := fun V b => hmy 0 V b
    rw [hm0] at hmy0
    clear hm0 h0 hsz hmy hk
    go_enter Tryz.func5, Tryz.ntmps5
    go_wp2_with (first
      | (go_at_call 9; (with_reducible refine hbg.mono ?_); rintro e w1 ⟨rfl, b1⟩; have B1 := k0.trans (b1.mono k0.size); obtain ⟨q0, q1, q2, q3, q4, q5⟩ := box6 ((b1.block w.heap.size (by simp)).trans r0))
      | (go_at_call 11; (with_reducible refine (hcl _).mono ?_); rintro e w2 ⟨rfl, b2⟩; have B2 := B1.trans (b2.mono B1.size); obtain ⟨p0, p1, p2, p3, p4, p5⟩ := box6 ((b2.block w.heap.size (by have := b1.size; simp at this; omega)).trans ((b1.block w.heap.size (by simp)).trans r0)))
      | (go_at_call 12; (with_reducible refine (hmy0 _ B2).mono ?_); rintro e w3 ⟨rfl, b3⟩))
    go_ret
    exact ⟨rfl, B2.trans (b3.mono B2.size)⟩
  have eK : (clsN k == 0) = false := by simp [h0]
  have hmo := may_own (d + 1) x (by rw [er]; exact h0)
  rw [er] at hmo
  have hmy1 := fun V b => hmy (clsN k) V b
  rw [hmo] at hmy1
  clear hmy hmo
  have hc3 := clsN_cases k
  cases ho : szO (d + 1) x
  · rw [ho, if_pos rfl] at hmy1
    clear ho hsz hk hc3
    generalize clsN k = CK at *
    go_enter Tryz.func5, Tryz.ntmps5
    go_wp2_with (first
      | (go_at_call 9; (with_reducible refine hbg.mono ?_); rintro e w1 ⟨rfl, b1⟩; have B1 := k0.trans (b1.mono k0.size); have R1 := (b1.block w.heap.size (by simp)).trans r0; obtain ⟨q0, q1, q2, q3, q4, q5⟩ := box6 R1)
      | (go_at_call 11; (with_reducible refine (hcl _).mono ?_); rintro e w2 ⟨rfl, b2⟩; have B2 := B1.trans (b2.mono B1.size); have R2 := (b2.block w.heap.size (Array.getElem?_eq_some_iff.1 R1).1).trans R1; obtain ⟨p0, p1, p2, p3, p4, p5⟩ := box6 R2)
      | (go_at_call 12; (with_reducible refine (hmy1 _ B2).mono ?_); rintro e w3 ⟨rfl, b3⟩; have B3 := B2.trans (b3.mono B2.size); have R3 := (b3.block w.heap.size (Array.getElem?_eq_some_iff.1 R2).1).trans R2; obtain ⟨m0, m1, m2, m3, m4, m5⟩ := box6 R3))
    go_ret
    exact ⟨rfl, B3⟩
  · rw [ho, if_neg (by simp)] at hmy1
    cases hf : fitB (d + 1) x true
    · rw [hf, if_pos rfl] at hmy1
      clear ho hf hsz hk hc3
      generalize clsN k = CK at *
      go_enter Tryz.func5, Tryz.ntmps5
      go_wp2_with (first
        | (go_at_call 9; (with_reducible refine hbg.mono ?_); rintro e w1 ⟨rfl, b1⟩; have B1 := k0.trans (b1.mono k0.size); have R1 := (b1.block w.heap.size (by simp)).trans r0; obtain ⟨q0, q1, q2, q3, q4, q5⟩ := box6 R1)
        | (go_at_call 11; (with_reducible refine (hcl _).mono ?_); rintro e w2 ⟨rfl, b2⟩; have B2 := B1.trans (b2.mono B1.size); have R2 := (b2.block w.heap.size (Array.getElem?_eq_some_iff.1 R1).1).trans R1; obtain ⟨p0, p1, p2, p3, p4, p5⟩ := box6 R2)
        | (go_at_call 12; (with_reducible refine (hmy1 _ B2).mono ?_); rintro e w3 ⟨rfl, b3⟩; have B3 := B2.trans (b3.mono B2.size); have R3 := (b3.block w.heap.size (Array.getElem?_eq_some_iff.1 R2).1).trans R2; obtain ⟨m0, m1, m2, m3, m4, m5⟩ := box6 R3))
      go_ret
      exact ⟨rfl, B3⟩
    · rw [hf, if_neg (by simp)] at hmy1
      have eN : szN (d + 1) x = nds (d + 1) x := by unfold szN; rw [if_pos ho]
      have eD : szD (d + 1) x = dep (d + 1) x := by unfold szD; rw [if_pos ho]
      rw [eN, eD] at hsz
      have hd := of_decide_eq_true (show decide (nds (d + 1) x ≤ 4096 ∧ dep (d + 1) x ≤ 256) = true from ho)
      have KF : Hid (_) := kid_facts d x ho hf
      obtain ⟨F, hF⟩ : ∃ F : Nat → Nat, F = fun i => (x.ks[i]?).elim 0 (nds d) := ⟨_, rfl⟩
      obtain ⟨G, hG⟩ : ∃ G : Nat → Nat, G = fun i => (x.ks[i]?).elim 0 (dep d) := ⟨_, rfl⟩
      have en : nds (d + 1) x = 1 + psum F L := by rw [hF, ← hL]; exact rfl
      have ed : dep (d + 1) x = 1 + pmax G L := by rw [hG, ← hL]; exact rfl
      have hFk : Hid (∀ i y, x.ks[i]? = some y → F i = nds d y) := fun i y e => by rw [hF]; simp only [e, Option.elim]
      have hGk : Hid (∀ i y, x.ks[i]? = some y → G i = dep d y) := fun i y e => by rw [hG]; simp only [e, Option.elim]
      rw [en, ed] at hsz hd
      have HD : Hid (1 + psum F L ≤ 4096 ∧ 1 + pmax G L ≤ 256) := hd
      have HK : Hid (Kq (Tv w d) w ko x.ks) := hk
      have hrm := hk.room
      rw [hL] at hrm
      have EK : Hid (x.nd.k = k) := ek
      clear hF hG en ed hd eN eD ho hf hk ek er h hc3
      generalize clsN k = CK at *
      go_enter Tryz.func5, Tryz.ntmps5
      go_wp2_with (first
        | (go_at_call 9; (with_reducible refine hbg.mono ?_); rintro e w1 ⟨rfl, b1⟩; have B1 := k0.trans (b1.mono k0.size); have R1 := (b1.block w.heap.size (by simp)).trans r0; obtain ⟨q0, q1, q2, q3, q4, q5⟩ := box6 R1)
        | (go_at_call 11; (with_reducible refine (hcl _).mono ?_); rintro e w2 ⟨rfl, b2⟩; have B2 := B1.trans (b2.mono B1.size); have R2 := (b2.block w.heap.size (Array.getElem?_eq_some_iff.1 R1).1).trans R1; obtain ⟨p0, p1, p2, p3, p4, p5⟩ := box6 R2)
        | (go_at_call 12; (with_reducible refine (hmy1 _ B2).mono ?_); rintro e w3 ⟨rfl, b3⟩; have B3 := B2.trans (b3.mono B2.size); have R3 := (b3.block w.heap.size (Array.getElem?_eq_some_iff.1 R2).1).trans R2; obtain ⟨m0, m1, m2, m3, m4, m5⟩ := box6 R3)
        | (go_at_call 13; (with_reducible refine (hsz _ B3).mono ?_); rintro e w4 ⟨rfl, b4⟩; have B4 := B3.trans (b4.mono B3.size); have R4 := (b4.block w.heap.size (Array.getElem?_eq_some_iff.1 R3).1).trans R3; obtain ⟨l0, l1, l2, l3, l4, l5⟩ := box6 R4))
      clear hbg hcl hmy1 hsz B1 B2 B3 p0 p1 p2 p3 p4 p5 q0 q1 q2 q3 q4 q5
      go_loopw [7, 8, 9] (fun a m i V => ∃ j : Nat, j ≤ L ∧ i = .int .i64 (j : Nat) ∧ a = .int .i64 ((1 + psum F j : Nat) : Int) ∧ m = .int .i64 (pmax G j : Nat) ∧ Below w.heap.size w V ∧ V.heap[w.heap.size]? = some (.cells #[.int .i64 k, .string t, .int .i64 n, .slice so sn sc, .slice ao an ac, .slice ko L kc] 31 (0, 0))) (fun _ _ i _ => L - (intOf i).toNat)
      case atStart => exact ⟨0, Nat.zero_le _, rfl, rfl, rfl, B4, R4⟩
      case round =>
        obtain ⟨j, hj, rfl, rfl, rfl, BV, RV⟩ := hrel
        clear B4 R4 l0 l1 l2 l3 l4 l5 m0 m1 m2 m3 m4 m5
        obtain ⟨l0, l1, l2, l3, l4, l5⟩ := box6 RV
        by_cases hlt : j < L
        · have t3 : decide ((j : Int) < (L : Int)) = true := by simp; omega
          have bj : (j : Int) < (L : Int) := by omega
          obtain ⟨y, hy⟩ : ∃ y, x.ks[j]? = some y := ⟨x.ks[j]'(by omega), by simp⟩
          obtain ⟨sN, sD, hcy, hmk⟩ := KF.out j y hy
          rw [EK.out] at hmk
          obtain ⟨b, off, rfl, hb, hc⟩ := HK.out.cells (by omega)
          obtain ⟨c0, c1, c2, c3, c4, c5, hv, e0, e1, e2, e3, e4, e5⟩ := hc j y hy
          have hrt := hv.form
          obtain ⟨k1, t1, n1, xo, xn, xc, zo, zn, zc, uo, un, uc, ev⟩ := hrt
          injection ev with ev0 ev
          injection ev with ev1 ev
          injection ev with ev2 ev
          injection ev with ev3 ev
          injection ev with ev4 ev
          injection ev with ev5 ev
          subst ev0 ev1 ev2 ev3 ev4 ev5
          have erk := (hv.rt).1
          rw [erk] at hcy hmk
          replace e0 := (BV.cell (p := ⟨b, off + j * 6, none⟩) hb).trans e0
          replace e1 := (BV.cell (p := ⟨b, off + j * 6 + 1, none⟩) hb).trans e1
          replace e2 := (BV.cell (p := ⟨b, off + j * 6 + 2, none⟩) hb).trans e2
          replace e3 := (BV.cell (p := ⟨b, off + j * 6 + 3, none⟩) hb).trans e3
          replace e4 := (BV.cell (p := ⟨b, off + j * 6 + 4, none⟩) hb).trans e4
          replace e5 := (BV.cell (p := ⟨b, off + j * 6 + 5, none⟩) hb).trans e5
          have eF := hFk.out j y hy
          have eG := hGk.out j y hy
          have p1 := psum_le F (i := j + 1) (m := L) (by omega)
          have p2 := pmax_le G (i := j + 1) (m := L) (by omega)
          simp only [psum, pmax] at p1 p2
          rw [eF] at p1
          rw [eG] at p2
          have hd := HD.out
          have HA : Hid (1 + psum F (j + 1) = 1 + psum F j + nds d y) := by show _ = _; simp only [psum]; omega
          have wA : IntKind.i64.wrap (((1 + psum F j : Nat) : Int) + (nds d y : Nat)) = ((1 + psum F (j + 1) : Nat) : Int) := by rw [HA.out, wrT (by omega) (by omega)]; rfl
          have wA' : wrap64 (1 + ((psum F j : Nat) : Int) + (nds d y : Nat)) = 1 + ((psum F (j + 1) : Nat) : Int) := by
            have e := wA
            rw [HA.out] at e
            have h1 := HA.out
            have h2 : wrap64 (1 + ((psum F j : Nat) : Int) + (nds d y : Nat)) = 1 + ((psum F j : Nat) : Int) + (nds d y : Nat) := by first | (unfold wrap64; omega) | (rw [← IntKind.wrap_i64]; exact wrT (by omega) (by omega))
            rw [h2]; omega
          have hmx : ∀ (ts : Array TypeId) (t : TypeId) (X : World), (Builtin.max_ ts t #[.int .i64 (pmax G j : Nat), .int .i64 (dep d y : Nat)]).run Tryz.prog X = .ok (.int .i64 (pmax G (j + 1) : Nat)) X := fun ts t X => by
            rw [run_max_int2]
            congr 2
            simp only [pmax]
            rw [eG]
            split <;> omega
          have HDS : Hid (1 + psum F (j + 1) ≤ 4096 ∧ 1 + pmax G (j + 1) ≤ 256) := ⟨by rw [HA.out]; omega, by simp only [pmax]; rw [eG]; omega⟩
          have kx := box_below wr (.cells #[.int .i64 k1, .string t1, .int .i64 n1, .slice xo xn xc, .slice zo zn zc, .slice uo un uc] 31)
          have rx := allocNew wr (.cells #[.int .i64 k1, .string t1, .int .i64 n1, .slice xo xn xc, .slice zo zn zc, .slice uo un uc] 31)
          have BX := BV.trans (kx.mono BV.size)
          have TX := Tv.below BX (Nat.le_refl _) _ _ _ hv
          have hsy := tsize_any d y _ _ _ _ _ _ _ TX
          rw [sN, sD] at hsy
          clear p1 p2 hc eF eG hd sN sD erk
          go_wp2_with (go_at_call 13; (with_reducible refine hsy.mono ?_); rintro e w5 ⟨rfl, b5⟩)
          have R5 := (b5.block wr.heap.size (by simp)).trans rx
          have lR5 := (Array.getElem?_eq_some_iff.1 R5).1
          have V5 := (b5.block w.heap.size (by have := BV.size; have := (Array.getElem?_eq_some_iff.1 RV).1; simp; omega)).trans ((kx.block w.heap.size (Array.getElem?_eq_some_iff.1 RV).1).trans RV)
          have lV5 := (Array.getElem?_eq_some_iff.1 V5).1
          have B5 := BX.trans (b5.mono BX.size)
          have T5 := Tv.below b5 (Nat.le_refl _) _ _ _ TX
          clear rx kx BX TX b5 hsy RV BV hv l0 l1 l2 l3 l4 l5 e0 e1 e2 e3 e4 e5
          generalize wr.heap.size = u at *
          obtain ⟨S, hS⟩ : ∃ S : World → Prop, S = fun V => V.cell? ⟨u, 0, none⟩ = some (.int .i64 k1) ∧ V.cell? ⟨u, 1, none⟩ = some (.string t1) ∧ V.cell? ⟨u, 2, none⟩ = some (.int .i64 n1) ∧ V.cell? ⟨u, 3, none⟩ = some (.slice xo xn xc) ∧ V.cell? ⟨u, 4, none⟩ = some (.slice zo zn zc) ∧ V.cell? ⟨u, 5, none⟩ = some (.slice uo un uc) ∧ V.cell? ⟨w.heap.size, 0, none⟩ = some (.int .i64 k) ∧ Below w5.heap.size w5 V := ⟨_, rfl⟩
          have al : ∀ V, Below w5.heap.size w5 V → S V := fun V k => by
            rw [hS]
            obtain ⟨a0, a1, a2, a3, a4, a5⟩ := box6 ((k.block u lR5).trans R5)
            obtain ⟨c0, _, _, _, _, _⟩ := box6 ((k.block w.heap.size lV5).trans V5)
            exact ⟨a0, a1, a2, a3, a4, a5, c0, k⟩
          have bl : ∀ V, S V → Below w5.heap.size w5 V := fun V h => by
            rw [hS] at h
            exact h.2.2.2.2.2.2.2
          have S0 : S w5 := al w5 (Below.refl _ _)
          have dr : ∀ V, S V → S V.drew := fun V h => al _ (bl V h).drew
          have hcl : ∀ V, S V → Calls Tryz.prog 11 #[.agg #[.int .i64 k1, .string t1, .int .i64 n1, .slice xo xn xc, .slice zo zn zc, .slice uo un uc]] V fun e w' => e = .returned (.int .i64 (clsN k1)) ∧ S w' := fun V h => (class_any k1 n1 t1 _ _ _ V).mono fun e w' ⟨e1, e2⟩ => ⟨e1, al _ ((bl V h).trans (e2.mono (bl V h).size))⟩
          have hmy : k ≠ 23 → ∀ V, S V → Calls Tryz.prog 12 #[.agg #[.int .i64 k1, .string t1, .int .i64 n1, .slice xo xn xc, .slice zo zn zc, .slice uo un uc], .int .i64 (clsN k1)] V fun e w' => e = .returned (.int .i64 0) ∧ S w' := fun h23 V h => (tmay_any d y _ _ _ _ _ _ (clsN k1) V (Tv.below (bl V h) (Nat.le_refl _) _ _ _ T5)).mono fun e w' ⟨e1, e2⟩ => ⟨by rw [e1, hmk h23], al _ ((bl V h).trans (e2.mono (bl V h).size))⟩
          have HE : Hid (∀ V, S V → Below w.heap.size w V ∧ V.heap[w.heap.size]? = some (.cells #[.int .i64 k, .string t, .int .i64 n, .slice so sn sc, .slice ao an ac, .slice (some ⟨b, off, none⟩) L kc] 31 (0, 0))) := fun V h => ⟨B5.trans ((bl V h).mono B5.size), ((bl V h).block w.heap.size lV5).trans V5⟩
          have HLT : Hid (j < L) := hlt
          have eC : (clsN k1 == 0) = false := by simp [hcy]
          clear al bl T5 hmk B5 R5 V5 lR5 lV5 hy hcy
          subst hS
          generalize clsN k1 = C at *
          by_cases h23 : k = 23
          · have f23 : (k == 23) = true := by simp [h23]
            have g23 : (k != 23) = false := by simp [h23]
            clear h23 hmy
            refine wp_region_R (fun V => V.cell? ⟨u, 0, none⟩ = some (.int .i64 k1) ∧ V.cell? ⟨u, 1, none⟩ = some (.string t1) ∧ V.cell? ⟨u, 2, none⟩ = some (.int .i64 n1) ∧ V.cell? ⟨u, 3, none⟩ = some (.slice xo xn xc) ∧ V.cell? ⟨u, 4, none⟩ = some (.slice zo zn zc) ∧ V.cell? ⟨u, 5, none⟩ = some (.slice uo un uc) ∧ V.cell? ⟨w.heap.size, 0, none⟩ = some (.int .i64 k) ∧ Below w5.heap.size w5 V) (fun _ => true) (by kernel_rfl) ?_
            refine wpAnyR_take (i := 0) (v := .agg #[.int .i64 k1, .string t1, .int .i64 n1, .slice xo xn xc, .slice zo zn zc, .slice uo un uc]) rfl (by kernel_rfl) (by kernel_rfl) (by kernel_rfl) (by kernel_rfl) (fun _ _ _ h => h) (Or.inl ⟨by rfl, fun V hV => ?_⟩) ?_ ?_
            · obtain ⟨g0, g1, g2, g3, g4, g5, g6, _⟩ := hV
              go_simp
            · exact dr _ S0
            conv => arg 9; simp [Act.put]
            refine wpAnyR_one (i := 1) (by kernel_rfl) rfl (fun K hK => ?_)
            go_simp
            go_wp2_with (go_at_call 11; (with_reducible refine (hcl _ (dr _ S0)).mono ?_); rintro e wa ⟨rfl, Sa⟩; refine hK _ _ ⟨fun _ => Sa, ?_⟩; clear hK)
            conv => arg 9; simp [Act.put]
            refine wpAnyR_take (i := 2) (v := .bool false) rfl (by kernel_rfl) (by kernel_rfl) (by kernel_rfl) (by kernel_rfl) (fun _ _ _ h => h) (Or.inl ⟨by rfl, fun V hV => ?_⟩) ?_ ?_
            · obtain ⟨g0, g1, g2, g3, g4, g5, g6, _⟩ := hV
              go_simp
            · exact Sa
            conv => arg 9; simp [Act.put]
            refine wpAnyR_take (i := 3) (v := .bool false) rfl (by kernel_rfl) (by kernel_rfl) (by kernel_rfl) (by kernel_rfl) (fun _ _ _ h => h) (Or.inl ⟨by rfl, fun V hV => ?_⟩) ?_ ?_
            · obtain ⟨g0, g1, g2, g3, g4, g5, g6, _⟩ := hV
              go_simp
            · exact Sa
            conv => arg 9; simp [Act.put]
            refine wpAnyR_take (i := 4) (v := .pointer (some ⟨w.heap.size, 0, none⟩)) rfl (by kernel_rfl) (by kernel_rfl) (by kernel_rfl) (by kernel_rfl) (fun _ _ _ h => h) (Or.inl ⟨by rfl, fun V hV => ?_⟩) ?_ ?_
            · obtain ⟨g0, g1, g2, g3, g4, g5, g6, _⟩ := hV
              go_simp
            · exact Sa
            conv => arg 9; simp [Act.put]
            refine wpAnyR_take (i := 5) (v := .int .i64 k) rfl (by kernel_rfl) (by kernel_rfl) (by kernel_rfl) (by kernel_rfl) (fun _ _ _ h => h) (Or.inl ⟨by rfl, fun V hV => ?_⟩) ?_ ?_
            · obtain ⟨g0, g1, g2, g3, g4, g5, g6, _⟩ := hV
              go_simp
            · exact Sa
            conv => arg 9; simp [Act.put]
            refine wpAnyR_take (i := 6) (v := .bool false) rfl (by kernel_rfl) (by kernel_rfl) (by kernel_rfl) (by kernel_rfl) (fun _ _ _ h => h) (Or.inl ⟨by rfl, fun V hV => ?_⟩) ?_ ?_
            · obtain ⟨g0, g1, g2, g3, g4, g5, g6, _⟩ := hV
              go_simp
            · exact Sa
            conv => arg 9; simp [Act.put]
            refine wpAnyR_take (i := 7) (v := .bool false) rfl (by kernel_rfl) (by kernel_rfl) (by kernel_rfl) (by kernel_rfl) (fun _ _ _ h => h) (Or.inl ⟨by rfl, fun V hV => ?_⟩) ?_ ?_
            · obtain ⟨g0, g1, g2, g3, g4, g5, g6, _⟩ := hV
              go_simp
            · exact Sa
            conv => arg 9; simp [Act.put]
            refine wpAnyR_take (i := 8) (v := undef) rfl (by kernel_rfl) (by kernel_rfl) (by kernel_rfl) (by kernel_rfl) (fun _ _ _ h => h) (Or.inr ⟨by rfl, rfl⟩) ?_ ?_
            · exact Sa
            conv => arg 9; simp [Act.put]
            refine wpAnyR_take (i := 9) (v := undef) rfl (by kernel_rfl) (by kernel_rfl) (by kernel_rfl) (by kernel_rfl) (fun _ _ _ h => h) (Or.inr ⟨by rfl, rfl⟩) ?_ ?_
            · exact Sa
            conv => arg 9; simp [Act.put]
            refine wpAnyR_take (i := 10) (v := .bool false) rfl (by kernel_rfl) (by kernel_rfl) (by kernel_rfl) (by kernel_rfl) (fun _ _ _ h => h) (Or.inl ⟨by rfl, fun V hV => ?_⟩) ?_ ?_
            · obtain ⟨g0, g1, g2, g3, g4, g5, g6, _⟩ := hV
              go_simp
            · exact Sa
            conv => arg 9; simp [Act.put]
            refine wpAnyR_take (i := 11) (v := .bool false) rfl (by kernel_rfl) (by kernel_rfl) (by kernel_rfl) (by kernel_rfl) (fun _ _ _ h => h) (Or.inl ⟨by rfl, fun V hV => ?_⟩) ?_ ?_
            · obtain ⟨g0, g1, g2, g3, g4, g5, g6, _⟩ := hV
              go_simp
            · exact Sa
            conv => arg 9; simp [Act.put]
            refine wpAnyR_take (i := 12) (v := undef) rfl (by kernel_rfl) (by kernel_rfl) (by kernel_rfl) (by kernel_rfl) (fun _ _ _ h => h) (Or.inr ⟨by rfl, rfl⟩) ?_ ?_
            · exact Sa
            conv => arg 9; simp [Act.put]
            refine wpAnyR_take (i := 13) (v := undef) rfl (by kernel_rfl) (by kernel_rfl) (by kernel_rfl) (by kernel_rfl) (fun _ _ _ h => h) (Or.inr ⟨by rfl, rfl⟩) ?_ ?_
            · exact Sa
            conv => arg 9; simp [Act.put]
            refine wpAnyR_one (i := 14) (by kernel_rfl) rfl (fun K hK => ?_)
            go_simp
            refine hK _ _ ⟨fun _ => Sa, ?_⟩
            clear hK
            conv => arg 9; simp [Act.put]
            refine wpAnyR_one (i := 15) (by kernel_rfl) rfl (fun K hK => ?_)
            go_simp
            refine hK _ _ ⟨fun _ => Sa, ?_⟩
            clear hK
            conv => arg 9; simp [Act.put]
            refine wpAnyR_take (i := 16) (v := undef) rfl (by kernel_rfl) (by kernel_rfl) (by kernel_rfl) (by kernel_rfl) (fun _ _ _ h => h) (Or.inr ⟨by rfl, rfl⟩) ?_ ?_
            · exact Sa
            conv => arg 9; simp [Act.put]
            refine wpAnyR_take (i := 17) (v := .bool false) rfl (by kernel_rfl) (by kernel_rfl) (by kernel_rfl) (by kernel_rfl) (fun _ _ _ h => h) (Or.inl ⟨by rfl, fun V hV => ?_⟩) ?_ ?_
            · obtain ⟨g0, g1, g2, g3, g4, g5, g6, _⟩ := hV
              go_simp
            · exact Sa
            conv => arg 9; simp [Act.put]
            refine wpAnyR_take (i := 18) (v := .bool false) rfl (by kernel_rfl) (by kernel_rfl) (by kernel_rfl) (by kernel_rfl) (fun _ _ _ h => h) (Or.inl ⟨by rfl, fun V hV => ?_⟩) ?_ ?_
            · obtain ⟨g0, g1, g2, g3, g4, g5, g6, _⟩ := hV
              go_simp
            · exact Sa
            conv => arg 9; simp [Act.put]
            refine wpAnyR_done (by kernel_rfl) ?_ _
            go_wp2
            go_roundw
            case rel => exact ⟨j + 1, HLT.out, by go_num, by go_num, by go_num, (HE.out _ Sa).1, (HE.out _ Sa).2⟩
            case measure => have := HLT.out; simp [intOf]; omega
          have f23 : (k == 23) = false := by simp [h23]
          have g23 : (k != 23) = true := by simp [h23]
          have hmy := hmy h23
          clear h23
          by_cases hK2 : CK = 2
          · have f2 : (CK == 2) = true := by simp [hK2]
            have g2 : (CK != 2) = false := by simp [hK2]
            clear hK2 hmy
            refine wp_region_R (fun V => V.cell? ⟨u, 0, none⟩ = some (.int .i64 k1) ∧ V.cell? ⟨u, 1, none⟩ = some (.string t1) ∧ V.cell? ⟨u, 2, none⟩ = some (.int .i64 n1) ∧ V.cell? ⟨u, 3, none⟩ = some (.slice xo xn xc) ∧ V.cell? ⟨u, 4, none⟩ = some (.slice zo zn zc) ∧ V.cell? ⟨u, 5, none⟩ = some (.slice uo un uc) ∧ V.cell? ⟨w.heap.size, 0, none⟩ = some (.int .i64 k) ∧ Below w5.heap.size w5 V) (fun _ => true) (by kernel_rfl) ?_
            refine wpAnyR_take (i := 0) (v := .agg #[.int .i64 k1, .string t1, .int .i64 n1, .slice xo xn xc, .slice zo zn zc, .slice uo un uc]) rfl (by kernel_rfl) (by kernel_rfl) (by kernel_rfl) (by kernel_rfl) (fun _ _ _ h => h) (Or.inl ⟨by rfl, fun V hV => ?_⟩) ?_ ?_
            · obtain ⟨g0, g1, g2, g3, g4, g5, g6, _⟩ := hV
              go_simp
            · exact dr _ S0
            conv => arg 9; simp [Act.put]
            refine wpAnyR_one (i := 1) (by kernel_rfl) rfl (fun K hK => ?_)
            go_simp
            go_wp2_with (go_at_call 11; (with_reducible refine (hcl _ (dr _ S0)).mono ?_); rintro e wa ⟨rfl, Sa⟩; refine hK _ _ ⟨fun _ => Sa, ?_⟩; clear hK)
            conv => arg 9; simp [Act.put]
            refine wpAnyR_take (i := 2) (v := .bool false) rfl (by kernel_rfl) (by kernel_rfl) (by kernel_rfl) (by kernel_rfl) (fun _ _ _ h => h) (Or.inl ⟨by rfl, fun V hV => ?_⟩) ?_ ?_
            · obtain ⟨g0, g1, g2, g3, g4, g5, g6, _⟩ := hV
              go_simp
            · exact Sa
            conv => arg 9; simp [Act.put]
            refine wpAnyR_take (i := 3) (v := .bool false) rfl (by kernel_rfl) (by kernel_rfl) (by kernel_rfl) (by kernel_rfl) (fun _ _ _ h => h) (Or.inl ⟨by rfl, fun V hV => ?_⟩) ?_ ?_
            · obtain ⟨g0, g1, g2, g3, g4, g5, g6, _⟩ := hV
              go_simp
            · exact Sa
            conv => arg 9; simp [Act.put]
            refine wpAnyR_take (i := 4) (v := .pointer (some ⟨w.heap.size, 0, none⟩)) rfl (by kernel_rfl) (by kernel_rfl) (by kernel_rfl) (by kernel_rfl) (fun _ _ _ h => h) (Or.inl ⟨by rfl, fun V hV => ?_⟩) ?_ ?_
            · obtain ⟨g0, g1, g2, g3, g4, g5, g6, _⟩ := hV
              go_simp
            · exact Sa
            conv => arg 9; simp [Act.put]
            refine wpAnyR_take (i := 5) (v := .int .i64 k) rfl (by kernel_rfl) (by kernel_rfl) (by kernel_rfl) (by kernel_rfl) (fun _ _ _ h => h) (Or.inl ⟨by rfl, fun V hV => ?_⟩) ?_ ?_
            · obtain ⟨g0, g1, g2, g3, g4, g5, g6, _⟩ := hV
              go_simp
            · exact Sa
            conv => arg 9; simp [Act.put]
            refine wpAnyR_take (i := 6) (v := .bool true) rfl (by kernel_rfl) (by kernel_rfl) (by kernel_rfl) (by kernel_rfl) (fun _ _ _ h => h) (Or.inl ⟨by rfl, fun V hV => ?_⟩) ?_ ?_
            · obtain ⟨g0, g1, g2, g3, g4, g5, g6, _⟩ := hV
              go_simp
            · exact Sa
            conv => arg 9; simp [Act.put]
            refine wpAnyR_take (i := 7) (v := .bool true) rfl (by kernel_rfl) (by kernel_rfl) (by kernel_rfl) (by kernel_rfl) (fun _ _ _ h => h) (Or.inl ⟨by rfl, fun V hV => ?_⟩) ?_ ?_
            · obtain ⟨g0, g1, g2, g3, g4, g5, g6, _⟩ := hV
              go_simp
            · exact Sa
            conv => arg 9; simp [Act.put]
            refine wpAnyR_take (i := 8) (v := .int .i64 CK) rfl (by kernel_rfl) (by kernel_rfl) (by kernel_rfl) (by kernel_rfl) (fun _ _ _ h => h) (Or.inl ⟨by rfl, fun V hV => ?_⟩) ?_ ?_
            · obtain ⟨g0, g1, g2, g3, g4, g5, g6, _⟩ := hV
              go_simp
            · exact Sa
            conv => arg 9; simp [Act.put]
            refine wpAnyR_take (i := 9) (v := .bool false) rfl (by kernel_rfl) (by kernel_rfl) (by kernel_rfl) (by kernel_rfl) (fun _ _ _ h => h) (Or.inl ⟨by rfl, fun V hV => ?_⟩) ?_ ?_
            · obtain ⟨g0, g1, g2, g3, g4, g5, g6, _⟩ := hV
              go_simp
            · exact Sa
            conv => arg 9; simp [Act.put]
            refine wpAnyR_take (i := 10) (v := .bool false) rfl (by kernel_rfl) (by kernel_rfl) (by kernel_rfl) (by kernel_rfl) (fun _ _ _ h => h) (Or.inl ⟨by rfl, fun V hV => ?_⟩) ?_ ?_
            · obtain ⟨g0, g1, g2, g3, g4, g5, g6, _⟩ := hV
              go_simp
            · exact Sa
            conv => arg 9; simp [Act.put]
            refine wpAnyR_take (i := 11) (v := .bool false) rfl (by kernel_rfl) (by kernel_rfl) (by kernel_rfl) (by kernel_rfl) (fun _ _ _ h => h) (Or.inl ⟨by rfl, fun V hV => ?_⟩) ?_ ?_
            · obtain ⟨g0, g1, g2, g3, g4, g5, g6, _⟩ := hV
              go_simp
            · exact Sa
            conv => arg 9; simp [Act.put]
            refine wpAnyR_take (i := 12) (v := undef) rfl (by kernel_rfl) (by kernel_rfl) (by kernel_rfl) (by kernel_rfl) (fun _ _ _ h => h) (Or.inr ⟨by rfl, rfl⟩) ?_ ?_
            · exact Sa
            conv => arg 9; simp [Act.put]
            refine wpAnyR_take (i := 13) (v := undef) rfl (by kernel_rfl) (by kernel_rfl) (by kernel_rfl) (by kernel_rfl) (fun _ _ _ h => h) (Or.inr ⟨by rfl, rfl⟩) ?_ ?_
            · exact Sa
            conv => arg 9; simp [Act.put]
            refine wpAnyR_one (i := 14) (by kernel_rfl) rfl (fun K hK => ?_)
            go_simp
            refine hK _ _ ⟨fun _ => Sa, ?_⟩
            clear hK
            conv => arg 9; simp [Act.put]
            refine wpAnyR_one (i := 15) (by kernel_rfl) rfl (fun K hK => ?_)
            go_simp
            refine hK _ _ ⟨fun _ => Sa, ?_⟩
            clear hK
            conv => arg 9; simp [Act.put]
            refine wpAnyR_take (i := 16) (v := undef) rfl (by kernel_rfl) (by kernel_rfl) (by kernel_rfl) (by kernel_rfl) (fun _ _ _ h => h) (Or.inr ⟨by rfl, rfl⟩) ?_ ?_
            · exact Sa
            conv => arg 9; simp [Act.put]
            refine wpAnyR_take (i := 17) (v := .bool false) rfl (by kernel_rfl) (by kernel_rfl) (by kernel_rfl) (by kernel_rfl) (fun _ _ _ h => h) (Or.inl ⟨by rfl, fun V hV => ?_⟩) ?_ ?_
            · obtain ⟨g0, g1, g2, g3, g4, g5, g6, _⟩ := hV
              go_simp
            · exact Sa
            conv => arg 9; simp [Act.put]
            refine wpAnyR_take (i := 18) (v := .bool false) rfl (by kernel_rfl) (by kernel_rfl) (by kernel_rfl) (by kernel_rfl) (fun _ _ _ h => h) (Or.inl ⟨by rfl, fun V hV => ?_⟩) ?_ ?_
            · obtain ⟨g0, g1, g2, g3, g4, g5, g6, _⟩ := hV
              go_simp
            · exact Sa
            conv => arg 9; simp [Act.put]
            refine wpAnyR_done (by kernel_rfl) ?_ _
            go_wp2
            go_roundw
            case rel => exact ⟨j + 1, HLT.out, by go_num, by go_num, by go_num, (HE.out _ Sa).1, (HE.out _ Sa).2⟩
            case measure => have := HLT.out; simp [intOf]; omega
          have f2 : (CK == 2) = false := by simp [hK2]
          have g2 : (CK != 2) = true := by simp [hK2]
          clear hK2
          refine wp_region_R (fun V => V.cell? ⟨u, 0, none⟩ = some (.int .i64 k1) ∧ V.cell? ⟨u, 1, none⟩ = some (.string t1) ∧ V.cell? ⟨u, 2, none⟩ = some (.int .i64 n1) ∧ V.cell? ⟨u, 3, none⟩ = some (.slice xo xn xc) ∧ V.cell? ⟨u, 4, none⟩ = some (.slice zo zn zc) ∧ V.cell? ⟨u, 5, none⟩ = some (.slice uo un uc) ∧ V.cell? ⟨w.heap.size, 0, none⟩ = some (.int .i64 k) ∧ Below w5.heap.size w5 V) (fun _ => true) (by kernel_rfl) ?_
          refine wpAnyR_take (i := 0) (v := .agg #[.int .i64 k1, .string t1, .int .i64 n1, .slice xo xn xc, .slice zo zn zc, .slice uo un uc]) rfl (by kernel_rfl) (by kernel_rfl) (by kernel_rfl) (by kernel_rfl) (fun _ _ _ h => h) (Or.inl ⟨by rfl, fun V hV => ?_⟩) ?_ ?_
          · obtain ⟨g0, g1, g2, g3, g4, g5, g6, _⟩ := hV
            go_simp
          · exact dr _ S0
          conv => arg 9; simp [Act.put]
          refine wpAnyR_one (i := 1) (by kernel_rfl) rfl (fun K hK => ?_)
          go_simp
          go_wp2_with (go_at_call 11; (with_reducible refine (hcl _ (dr _ S0)).mono ?_); rintro e wa ⟨rfl, Sa⟩; refine hK _ _ ⟨fun _ => Sa, ?_⟩; clear hK)
          conv => arg 9; simp [Act.put]
          refine wpAnyR_take (i := 2) (v := .bool false) rfl (by kernel_rfl) (by kernel_rfl) (by kernel_rfl) (by kernel_rfl) (fun _ _ _ h => h) (Or.inl ⟨by rfl, fun V hV => ?_⟩) ?_ ?_
          · obtain ⟨g0, g1, g2, g3, g4, g5, g6, _⟩ := hV
            go_simp
          · exact Sa
          conv => arg 9; simp [Act.put]
          refine wpAnyR_take (i := 3) (v := .bool false) rfl (by kernel_rfl) (by kernel_rfl) (by kernel_rfl) (by kernel_rfl) (fun _ _ _ h => h) (Or.inl ⟨by rfl, fun V hV => ?_⟩) ?_ ?_
          · obtain ⟨g0, g1, g2, g3, g4, g5, g6, _⟩ := hV
            go_simp
          · exact Sa
          conv => arg 9; simp [Act.put]
          refine wpAnyR_take (i := 4) (v := .pointer (some ⟨w.heap.size, 0, none⟩)) rfl (by kernel_rfl) (by kernel_rfl) (by kernel_rfl) (by kernel_rfl) (fun _ _ _ h => h) (Or.inl ⟨by rfl, fun V hV => ?_⟩) ?_ ?_
          · obtain ⟨g0, g1, g2, g3, g4, g5, g6, _⟩ := hV
            go_simp
          · exact Sa
          conv => arg 9; simp [Act.put]
          refine wpAnyR_take (i := 5) (v := .int .i64 k) rfl (by kernel_rfl) (by kernel_rfl) (by kernel_rfl) (by kernel_rfl) (fun _ _ _ h => h) (Or.inl ⟨by rfl, fun V hV => ?_⟩) ?_ ?_
          · obtain ⟨g0, g1, g2, g3, g4, g5, g6, _⟩ := hV
            go_simp
          · exact Sa
          conv => arg 9; simp [Act.put]
          refine wpAnyR_take (i := 6) (v := .bool true) rfl (by kernel_rfl) (by kernel_rfl) (by kernel_rfl) (by kernel_rfl) (fun _ _ _ h => h) (Or.inl ⟨by rfl, fun V hV => ?_⟩) ?_ ?_
          · obtain ⟨g0, g1, g2, g3, g4, g5, g6, _⟩ := hV
            go_simp
          · exact Sa
          conv => arg 9; simp [Act.put]
          refine wpAnyR_take (i := 7) (v := .bool true) rfl (by kernel_rfl) (by kernel_rfl) (by kernel_rfl) (by kernel_rfl) (fun _ _ _ h => h) (Or.inl ⟨by rfl, fun V hV => ?_⟩) ?_ ?_
          · obtain ⟨g0, g1, g2, g3, g4, g5, g6, _⟩ := hV
            go_simp
          · exact Sa
          conv => arg 9; simp [Act.put]
          refine wpAnyR_take (i := 8) (v := .int .i64 CK) rfl (by kernel_rfl) (by kernel_rfl) (by kernel_rfl) (by kernel_rfl) (fun _ _ _ h => h) (Or.inl ⟨by rfl, fun V hV => ?_⟩) ?_ ?_
          · obtain ⟨g0, g1, g2, g3, g4, g5, g6, _⟩ := hV
            go_simp
          · exact Sa
          conv => arg 9; simp [Act.put]
          refine wpAnyR_take (i := 9) (v := .bool true) rfl (by kernel_rfl) (by kernel_rfl) (by kernel_rfl) (by kernel_rfl) (fun _ _ _ h => h) (Or.inl ⟨by rfl, fun V hV => ?_⟩) ?_ ?_
          · obtain ⟨g0, g1, g2, g3, g4, g5, g6, _⟩ := hV
            go_simp
          · exact Sa
          conv => arg 9; simp [Act.put]
          refine wpAnyR_take (i := 10) (v := .bool true) rfl (by kernel_rfl) (by kernel_rfl) (by kernel_rfl) (by kernel_rfl) (fun _ _ _ h => h) (Or.inl ⟨by rfl, fun V hV => ?_⟩) ?_ ?_
          · obtain ⟨g0, g1, g2, g3, g4, g5, g6, _⟩ := hV
            go_simp
          · exact Sa
          conv => arg 9; simp [Act.put]
          refine wpAnyR_take (i := 11) (v := .bool true) rfl (by kernel_rfl) (by kernel_rfl) (by kernel_rfl) (by kernel_rfl) (fun _ _ _ h => h) (Or.inl ⟨by rfl, fun V hV => ?_⟩) ?_ ?_
          · obtain ⟨g0, g1, g2, g3, g4, g5, g6, _⟩ := hV
            go_simp
          · exact Sa
          conv => arg 9; simp [Act.put]
          refine wpAnyR_take (i := 12) (v := .agg #[.int .i64 k1, .string t1, .int .i64 n1, .slice xo xn xc, .slice zo zn zc, .slice uo un uc]) rfl (by kernel_rfl) (by kernel_rfl) (by kernel_rfl) (by kernel_rfl) (fun _ _ _ h => h) (Or.inl ⟨by rfl, fun V hV => ?_⟩) ?_ ?_
          · obtain ⟨g0, g1, g2, g3, g4, g5, g6, _⟩ := hV
            go_simp
          · exact Sa
          conv => arg 9; simp [Act.put]
          refine wpAnyR_take (i := 13) (v := .agg #[.int .i64 k1, .string t1, .int .i64 n1, .slice xo xn xc, .slice zo zn zc, .slice uo un uc]) rfl (by kernel_rfl) (by kernel_rfl) (by kernel_rfl) (by kernel_rfl) (fun _ _ _ h => h) (Or.inl ⟨by rfl, fun V hV => ?_⟩) ?_ ?_
          · obtain ⟨g0, g1, g2, g3, g4, g5, g6, _⟩ := hV
            go_simp
          · exact Sa
          conv => arg 9; simp [Act.put]
          refine wpAnyR_one (i := 14) (by kernel_rfl) rfl (fun K hK => ?_)
          go_simp
          go_wp2_with (go_at_call 11; (with_reducible refine (hcl _ Sa).mono ?_); rintro e wb ⟨rfl, Sb⟩; refine hK _ _ ⟨fun _ => Sb, ?_⟩; clear hK)
          conv => arg 9; simp [Act.put]
          refine wpAnyR_one (i := 15) (by kernel_rfl) rfl (fun K hK => ?_)
          go_simp
          go_wp2_with (go_at_call 12; (with_reducible refine (hmy _ Sb).mono ?_); rintro e wc ⟨rfl, Sc⟩; refine hK _ _ ⟨fun _ => Sc, ?_⟩; clear hK)
          conv => arg 9; simp [Act.put]
          refine wpAnyR_take (i := 16) (v := .bool false) rfl (by kernel_rfl) (by kernel_rfl) (by kernel_rfl) (by kernel_rfl) (fun _ _ _ h => h) (Or.inl ⟨by rfl, fun V hV => ?_⟩) ?_ ?_
          · obtain ⟨g0, g1, g2, g3, g4, g5, g6, _⟩ := hV
            go_simp
          · exact Sc
          conv => arg 9; simp [Act.put]
          refine wpAnyR_take (i := 17) (v := .bool false) rfl (by kernel_rfl) (by kernel_rfl) (by kernel_rfl) (by kernel_rfl) (fun _ _ _ h => h) (Or.inl ⟨by rfl, fun V hV => ?_⟩) ?_ ?_
          · obtain ⟨g0, g1, g2, g3, g4, g5, g6, _⟩ := hV
            go_simp
          · exact Sc
          conv => arg 9; simp [Act.put]
          refine wpAnyR_take (i := 18) (v := .bool false) rfl (by kernel_rfl) (by kernel_rfl) (by kernel_rfl) (by kernel_rfl) (fun _ _ _ h => h) (Or.inl ⟨by rfl, fun V hV => ?_⟩) ?_ ?_
          · obtain ⟨g0, g1, g2, g3, g4, g5, g6, _⟩ := hV
            go_simp
          · exact Sc
          conv => arg 9; simp [Act.put]
          refine wpAnyR_done (by kernel_rfl) ?_ _
          go_wp2
          go_roundw
          case rel => exact ⟨j + 1, HLT.out, by go_num, by go_num, by go_num, (HE.out _ Sc).1, (HE.out _ Sc).2⟩
          case measure => have := HLT.out; simp [intOf]; omega
        · obtain rfl : j = L := by omega
          have t3 : decide ((j : Int) < (j : Int)) = false := by simp
          have hd := HD.out
          have wP : IntKind.i64.wrap (((pmax G j : Nat) : Int) + 1) = ((1 + pmax G j : Nat) : Int) := by rw [wrT (by omega) (by omega)]; omega
          have x1 : (((1 + psum F j : Nat) : Int) == ((1 + psum F j : Nat) : Int)) = true := by simp
          have x3 : decide (((1 + psum F j : Nat) : Int) ≤ 4096) = true := by simp; omega
          have x4 : decide (((1 + pmax G j : Nat) : Int) ≤ 256) = true := by simp; omega
          have x5 : decide ((1 : Int) + (pmax G j : Nat) ≤ 256) = true := by simp; omega
          have x6 : decide ((1 : Int) + (psum F j : Nat) ≤ 4096) = true := by simp; omega
          go_wp2
          go_ret
          exact ⟨ret_bool (by simp), BV⟩
theorem parts_walk : ∀ (d : Nat) (x : Tr d) (c0 c1 c2 c3 c4 c5 : Value) (w : World), Tv w d x [c0, c1, c2, c3, c4, c5] → Calls Tryz.prog 5 #[.agg #[c0, c1, c2, c3, c4, c5]] w fun e w' => e = .returned (.bool true) ∧ Below w.heap.size w w'
  | 0, _, _, _, _, _, _, _, _, h => h.elim
  | d + 1, x, c0, c1, c2, c3, c4, c5, w, h => by
    have h0 := h
    obtain ⟨⟨so, sn, sc, ao, an, ac, ko, kc, ev, h1, h2, h3, h4, h5, h6⟩, _, _, ht⟩ := h
    injection ev with ev0 ev
    injection ev with ev1 ev
    injection ev with ev2 ev
    injection ev with ev3 ev
    injection ev with ev4 ev
    injection ev with ev5 ev
    subst ev0 ev1 ev2 ev3 ev4 ev5
    exact parts_one d x _ _ _ so ao ko sn sc an ac x.ks.length kc w h0 rfl rfl h5
end Go.Proofs.YtiahilelcppfgaaGreat
