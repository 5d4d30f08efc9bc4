
/- Package term: alike. -/

import Derived.Test.YtiahilelcppfgaaGreatTD

import Derived.Test.YtiahilelcppfgaaGreatA2

namespace Go.Proofs.YtiahilelcppfgaaGreat

open Go.RowKit

set_option linter.unusedVariables false

/-- Are two terms the same? -/
def alkB : (d : Nat) → Tr d → (e : Nat) → Tr e → Bool
  | 0, _, _, _ => false
  | _ + 1, _, 0, _ => false
  | d + 1, x, e + 1, y => decide (x.nd.k = y.nd.k) && ((x.nd.t.toList == y.nd.t.toList) && (decide (x.nd.n = y.nd.n) && (eqA x.nd.sh x.nd.at' y.nd.sh y.nd.at' && (decide (x.ks.length = y.ks.length) && pall (fun i => (x.ks[i]?).elim true fun a => (y.ks[i]?).elim true fun b => alkB d a e b) x.ks.length))))
/-- What is told of two terms, in any world behind w0. -/
def AlkC (d e : Nat) (w0 : World) : Prop := ∀ (x : Tr d) (y : Tr e) (c0 c1 c2 c3 c4 c5 b0 b1 b2 b3 b4 b5 : Value) (w : World), Tv w0 d x [c0, c1, c2, c3, c4, c5] → Tv w0 e y [b0, b1, b2, b3, b4, b5] → Below w0.heap.size w0 w → Calls Tryz.prog 38 #[.agg #[c0, c1, c2, c3, c4, c5], .agg #[b0, b1, b2, b3, b4, b5]] w fun e' w' => e' = .returned (.bool (alkB d x e y)) ∧ Below w.heap.size w w'
set_option maxHeartbeats 4000000 in
theorem equalAlk_any (d e : Nat) (xs : List (Tr d)) (ys : List (Tr e)) (xo yo : Option Addr) (xc yc : Nat) (w0 w : World) (hx : Kq (Tv w0 d) w0 xo xs) (hy : Kq (Tv w0 e) w0 yo ys) (hw : Below w0.heap.size w0 w) (ih : AlkC d e w0) :
    Calls Tryz.prog 67 #[.slice xo xs.length xc, .slice yo ys.length yc, .func (.func 38) #[] #[]] w fun e' w' => e' = .returned (.bool (decide (xs.length = ys.length) && pall (fun i => (xs[i]?).elim true fun a => (ys[i]?).elim true fun b => alkB d a e b) xs.length)) ∧ Below w.heap.size w w' := by
  have hrx := hx.room
  have hry := hy.room
  obtain ⟨f, hf⟩ : ∃ f : Nat → Bool, f = fun i => (xs[i]?).elim true fun a => (ys[i]?).elim true fun b => alkB d a e b := ⟨_, rfl⟩
  have hfk : Hid (∀ i a b, xs[i]? = some a → ys[i]? = some b → f i = alkB d a e b) := fun i a b e1 e2 => by rw [hf]; simp only [e1, e2, Option.elim]
  rw [← hf]
  clear hf
  have HX : Hid (Kq (Tv w0 d) w0 xo xs) := hx
  have HY : Hid (Kq (Tv w0 e) w0 yo ys) := hy
  have HI : Hid (AlkC d e w0) := ih
  clear hx hy ih
  by_cases hn : xs.length = ys.length
  · have d0 : decide (xs.length = ys.length) = true := by simp [hn]
    rw [d0, Bool.true_and]
    have HN : Hid (ys.length = xs.length) := hn.symm
    rw [← hn] at hry ⊢
    clear hn d0
    generalize hL : xs.length = L at *
    have t0 : ((L : Int) == (L : Int)) = true := by simp
    go_enter Tryz.func67, Tryz.ntmps67
    go_wp2
    go_loopw [17] (fun i V => ∃ k : Nat, k ≤ L ∧ i = .int .i64 (k : Nat) ∧ Below w.heap.size w V ∧ ∀ j, j < k → f j = true) (fun i _ => L - (intOf i).toNat)
    case atStart => exact ⟨0, Nat.zero_le _, rfl, Below.refl _ _, fun j hj => by omega⟩
    case round =>
      obtain ⟨k, hk, rfl, BV, hz⟩ := hrel
      have HZ : Hid (∀ j, j < k → f j = true) := hz
      clear hz t0
      by_cases hlt : k < L
      · have t1 : decide ((k : Int) < (L : Int)) = true := by simp; omega
        have bk : (k : Int) < (L : Int) := by omega
        have BB := hw.trans (BV.mono hw.size)
        obtain ⟨x, hx⟩ : ∃ x, xs[k]? = some x := ⟨xs[k]'(by omega), by simp⟩
        obtain ⟨y, hy⟩ : ∃ y, ys[k]? = some y := ⟨ys[k]'(by have := HN.out; omega), by simp⟩
        obtain ⟨b, off, rfl, hb, hc⟩ := HX.out.cells (by omega)
        obtain ⟨c0, c1, c2, c3, c4, c5, hv, q0, q1, q2, q3, q4, q5⟩ := hc k x hx
        obtain ⟨b', off', rfl, hb', hc'⟩ := HY.out.cells (by have := HN.out; omega)
        obtain ⟨v0, v1, v2, v3, v4, v5, hv', p0, p1, p2, p3, p4, p5⟩ := hc' k y hy
        have hcal := fun W => HI.out x y _ _ _ _ _ _ _ _ _ _ _ _ W hv hv'
        rw [← hfk.out k x y hx hy] at hcal
        obtain ⟨k1, t1, n1, so1, sn1, sc1, ao1, an1, ac1, uo1, un1, uc1, ev⟩ := hv.form
        injection ev with ev0 ev
        injection ev with ev1 ev
        injection ev with ev2 ev
        injection ev with ev3 ev
        injection ev with ev4 ev
        injection ev with ev5 ev
        subst ev0 ev1 ev2 ev3 ev4 ev5
        obtain ⟨k2, t2, n2, so2, sn2, sc2, ao2, an2, ac2, uo2, un2, uc2, ev⟩ := hv'.form
        injection ev with ev0 ev
        injection ev with ev1 ev
        injection ev with ev2 ev
        injection ev with ev3 ev
        injection ev with ev4 ev
        injection ev with ev5 ev
        subst ev0 ev1 ev2 ev3 ev4 ev5
        replace q0 := (BB.cell (p := ⟨b, off + k * 6, none⟩) hb).trans q0
        replace q1 := (BB.cell (p := ⟨b, off + k * 6 + 1, none⟩) hb).trans q1
        replace q2 := (BB.cell (p := ⟨b, off + k * 6 + 2, none⟩) hb).trans q2
        replace q3 := (BB.cell (p := ⟨b, off + k * 6 + 3, none⟩) hb).trans q3
        replace q4 := (BB.cell (p := ⟨b, off + k * 6 + 4, none⟩) hb).trans q4
        replace q5 := (BB.cell (p := ⟨b, off + k * 6 + 5, none⟩) hb).trans q5
        replace p0 := (BB.cell (p := ⟨b', off' + k * 6, none⟩) hb').trans p0
        replace p1 := (BB.cell (p := ⟨b', off' + k * 6 + 1, none⟩) hb').trans p1
        replace p2 := (BB.cell (p := ⟨b', off' + k * 6 + 2, none⟩) hb').trans p2
        replace p3 := (BB.cell (p := ⟨b', off' + k * 6 + 3, none⟩) hb').trans p3
        replace p4 := (BB.cell (p := ⟨b', off' + k * 6 + 4, none⟩) hb').trans p4
        replace p5 := (BB.cell (p := ⟨b', off' + k * 6 + 5, none⟩) hb').trans p5
        have s0 := ((box_below wr (.cells #[.int .i64 k1, .string t1, .int .i64 n1, .slice so1 sn1 sc1, .slice ao1 an1 ac1, .slice uo1 un1 uc1] 31)).cell (p := ⟨b', off' + k * 6, none⟩) (World.block_lt_of_cell? _ _ p0)).trans p0
        have s1 := ((box_below wr (.cells #[.int .i64 k1, .string t1, .int .i64 n1, .slice so1 sn1 sc1, .slice ao1 an1 ac1, .slice uo1 un1 uc1] 31)).cell (p := ⟨b', off' + k * 6 + 1, none⟩) (World.block_lt_of_cell? _ _ p1)).trans p1
        have s2 := ((box_below wr (.cells #[.int .i64 k1, .string t1, .int .i64 n1, .slice so1 sn1 sc1, .slice ao1 an1 ac1, .slice uo1 un1 uc1] 31)).cell (p := ⟨b', off' + k * 6 + 2, none⟩) (World.block_lt_of_cell? _ _ p2)).trans p2
        have s3 := ((box_below wr (.cells #[.int .i64 k1, .string t1, .int .i64 n1, .slice so1 sn1 sc1, .slice ao1 an1 ac1, .slice uo1 un1 uc1] 31)).cell (p := ⟨b', off' + k * 6 + 3, none⟩) (World.block_lt_of_cell? _ _ p3)).trans p3
        have s4 := ((box_below wr (.cells #[.int .i64 k1, .string t1, .int .i64 n1, .slice so1 sn1 sc1, .slice ao1 an1 ac1, .slice uo1 un1 uc1] 31)).cell (p := ⟨b', off' + k * 6 + 4, none⟩) (World.block_lt_of_cell? _ _ p4)).trans p4
        have s5 := ((box_below wr (.cells #[.int .i64 k1, .string t1, .int .i64 n1, .slice so1 sn1 sc1, .slice ao1 an1 ac1, .slice uo1 un1 uc1] 31)).cell (p := ⟨b', off' + k * 6 + 5, none⟩) (World.block_lt_of_cell? _ _ p5)).trans p5
        have ka := (box_below wr (.cells #[.int .i64 k1, .string t1, .int .i64 n1, .slice so1 sn1 sc1, .slice ao1 an1 ac1, .slice uo1 un1 uc1] 31)).trans ((box_below (wr.alloc (.cells #[.int .i64 k1, .string t1, .int .i64 n1, .slice so1 sn1 sc1, .slice ao1 an1 ac1, .slice uo1 un1 uc1] 31)) (.cells #[.int .i64 k2, .string t2, .int .i64 n2, .slice so2 sn2 sc2, .slice ao2 an2 ac2, .slice uo2 un2 uc2] 31)).mono (by simp))
        have z0 := box6 (allocNew (wr.alloc (.cells #[.int .i64 k1, .string t1, .int .i64 n1, .slice so1 sn1 sc1, .slice ao1 an1 ac1, .slice uo1 un1 uc1] 31)) (.cells #[.int .i64 k2, .string t2, .int .i64 n2, .slice so2 sn2 sc2, .slice ao2 an2 ac2, .slice uo2 un2 uc2] 31))
        rw [World.size_alloc] at z0
        obtain ⟨z0, z1, z2, z3, z4, z5⟩ := z0
        obtain ⟨y0, y1, y2, y3, y4, y5⟩ := box6 (((box_below (wr.alloc (.cells #[.int .i64 k1, .string t1, .int .i64 n1, .slice so1 sn1 sc1, .slice ao1 an1 ac1, .slice uo1 un1 uc1] 31)) (.cells #[.int .i64 k2, .string t2, .int .i64 n2, .slice so2 sn2 sc2, .slice ao2 an2 ac2, .slice uo2 un2 uc2] 31)).block wr.heap.size (by simp)).trans (allocNew wr (.cells #[.int .i64 k1, .string t1, .int .i64 n1, .slice so1 sn1 sc1, .slice ao1 an1 ac1, .slice uo1 un1 uc1] 31)))
        have hcal := hcal _ (BB.trans (ka.mono BB.size))
        clear hc hc' hx hy hv hv'
        cases hB : f k
        · rw [hB] at hcal
          have HNO : Hid (pall f L = false) := pall_no hlt hB
          clear hB
          go_wp2_with (go_at_call 38; (with_reducible refine hcal.mono ?_); rintro e w6 ⟨rfl, b6⟩)
          go_ret
          exact ⟨ret_bool HNO.out.symm, BV.trans ((ka.trans (b6.mono ka.size)).mono BV.size)⟩
        · rw [hB] at hcal
          have HB2 : Hid (f k = true) := hB
          clear hB
          go_wp2_with (go_at_call 38; (with_reducible refine hcal.mono ?_); rintro e w6 ⟨rfl, b6⟩)
          go_roundw
          case rel => exact ⟨k + 1, by omega, by go_num, BV.trans ((ka.trans (b6.mono ka.size)).mono BV.size), fun j hj => by
            rcases Nat.lt_succ_iff_lt_or_eq.1 hj with h | h
            · exact HZ.out j h
            · rw [h]; exact HB2.out⟩
          case measure => simp [intOf]; omega
      · obtain rfl : k = L := by omega
        have t1 : decide ((k : Int) < (k : Int)) = false := by simp
        have HY2 : Hid (pall f k = true) := (pall_iff f k).2 HZ.out
        go_wp2
        go_ret
        exact ⟨ret_bool HY2.out.symm, BV⟩
  · have t0 : ((xs.length : Int) == (ys.length : Int)) = false := by simp; omega
    have d0 : decide (xs.length = ys.length) = false := by simp [hn]
    rw [d0, Bool.false_and]
    clear hn d0
    generalize xs.length = L at *
    generalize ys.length = M at *
    go_enter Tryz.func67, Tryz.ntmps67
    go_wp2
    go_ret
    exact ⟨rfl, Below.refl _ _⟩
set_option maxHeartbeats 4000000 in
theorem alike_one (k n k2 n2 : Int) (t t2 : ByteArray) (so ao uo so2 ao2 uo2 : Option Addr) (sn sc an ac un uc sn2 sc2 an2 ac2 un2 uc2 : Nat) (s a s2 a2 : List Int) (Q : Bool) (w0 w : World) (hw : Below w0.heap.size w0 w) (hs : Rd w0 so sn s) (ha : Rd w0 ao an a) (hs2 : Rd w0 so2 sn2 s2) (ha2 : Rd w0 ao2 an2 a2)
    (hq : ∀ V, Below w0.heap.size w0 V → Calls Tryz.prog 67 #[.slice uo un uc, .slice uo2 un2 uc2, .func (.func 38) #[] #[]] V fun e' w' => e' = .returned (.bool Q) ∧ Below V.heap.size V w') :
    Calls Tryz.prog 38 #[.agg #[.int .i64 k, .string t, .int .i64 n, .slice so sn sc, .slice ao an ac, .slice uo un uc], .agg #[.int .i64 k2, .string t2, .int .i64 n2, .slice so2 sn2 sc2, .slice ao2 an2 ac2, .slice uo2 un2 uc2]] w fun e' w' => e' = .returned (.bool (decide (k = k2) && ((t.toList == t2.toList) && (decide (n = n2) && (eqA s a s2 a2 && Q))))) ∧ Below w.heap.size w w' := by
  have k0 := box_below w (.cells #[.int .i64 k, .string t, .int .i64 n, .slice so sn sc, .slice ao an ac, .slice uo un uc] 31)
  have k1 := box_below (w.alloc (.cells #[.int .i64 k, .string t, .int .i64 n, .slice so sn sc, .slice ao an ac, .slice uo un uc] 31)) (.cells #[.int .i64 k2, .string t2, .int .i64 n2, .slice so2 sn2 sc2, .slice ao2 an2 ac2, .slice uo2 un2 uc2] 31)
  have kk := k0.trans (k1.mono k0.size)
  have bb := hw.trans (kk.mono hw.size)
  have R0 := (k1.block w.heap.size (by simp)).trans (allocNew w (.cells #[.int .i64 k, .string t, .int .i64 n, .slice so sn sc, .slice ao an ac, .slice uo un uc] 31))
  have R1 := allocNew (w.alloc (.cells #[.int .i64 k, .string t, .int .i64 n, .slice so sn sc, .slice ao an ac, .slice uo un uc] 31)) (.cells #[.int .i64 k2, .string t2, .int .i64 n2, .slice so2 sn2 sc2, .slice ao2 an2 ac2, .slice uo2 un2 uc2] 31)
  rw [World.size_alloc] at R1 k1
  obtain ⟨y0, y1, y2, y3, y4, y5⟩ := box6 R0
  obtain ⟨z0, z1, z2, z3, z4, z5⟩ := box6 R1
  have hsm := same_any so ao so2 ao2 sn sc an ac sn2 sc2 an2 ac2 s a s2 a2 _ (hs.below bb (Nat.le_refl _)) (ha.below bb (Nat.le_refl _)) (hs2.below bb (Nat.le_refl _)) (ha2.below bb (Nat.le_refl _))
  clear hs ha hs2 ha2 k0
  generalize eqA s a s2 a2 = Y at *
  have dk : decide (k = k2) = (k == k2) := by by_cases h : k = k2 <;> simp [h]
  have dn : decide (n = n2) = (n == n2) := by by_cases h : n = n2 <;> simp [h]
  rw [dk, dn]
  clear dk dn
  cases e1 : (k == k2)
  · rw [Bool.false_and]
    clear hq hsm
    go_enter Tryz.func38, Tryz.ntmps38
    go_wp2
    go_ret
    exact ⟨rfl, kk⟩
  · rw [Bool.true_and]
    cases e2 : (t.toList == t2.toList)
    · rw [Bool.false_and]
      clear hq hsm
      go_enter Tryz.func38, Tryz.ntmps38
      go_wp2
      go_ret
      exact ⟨rfl, kk⟩
    · rw [Bool.true_and]
      cases e3 : (n == n2)
      · rw [Bool.false_and]
        clear hq hsm
        go_enter Tryz.func38, Tryz.ntmps38
        go_wp2
        go_ret
        exact ⟨rfl, kk⟩
      · rw [Bool.true_and]
        cases Y
        · rw [Bool.false_and]
          go_enter Tryz.func38, Tryz.ntmps38
          go_wp2_with (first
            | (go_at_call 66; (with_reducible refine hsm.mono ?_); rintro e w5 ⟨rfl, b5⟩; have c5 := bb.trans (b5.mono bb.size); obtain ⟨x0, x1, x2, x3, x4, x5⟩ := box6 ((b5.block w.heap.size (by simp; omega)).trans R0); obtain ⟨u0, u1, u2, u3, u4, u5⟩ := box6 ((b5.block (w.heap.size + 1) (by simp)).trans R1); have b7 := kk.trans (b5.mono kk.size))
            | (go_at_call 67; (with_reducible refine (hq _ c5).mono ?_); rintro e w6 ⟨rfl, b6⟩))
          go_ret
          exact ⟨rfl, b7⟩
        · rw [Bool.true_and]
          go_enter Tryz.func38, Tryz.ntmps38
          go_wp2_with (first
            | (go_at_call 66; (with_reducible refine hsm.mono ?_); rintro e w5 ⟨rfl, b5⟩; have c5 := bb.trans (b5.mono bb.size); obtain ⟨x0, x1, x2, x3, x4, x5⟩ := box6 ((b5.block w.heap.size (by simp; omega)).trans R0); obtain ⟨u0, u1, u2, u3, u4, u5⟩ := box6 ((b5.block (w.heap.size + 1) (by simp)).trans R1); have b7 := kk.trans (b5.mono kk.size))
            | (go_at_call 67; (with_reducible refine (hq _ c5).mono ?_); rintro e w6 ⟨rfl, b6⟩))
          go_ret
          exact ⟨rfl, (b7.trans (b6.mono b7.size))⟩
theorem alike_any : ∀ (d e : Nat) (w0 : World), AlkC d e w0
  | 0, _, _ => fun _ _ _ _ _ _ _ _ _ _ _ _ _ _ _ h _ _ => h.elim
  | _ + 1, 0, _ => fun _ _ _ _ _ _ _ _ _ _ _ _ _ _ _ _ h _ => h.elim
  | d + 1, e + 1, w0 => fun x y c0 c1 c2 c3 c4 c5 b0 b1 b2 b3 b4 b5 w h g hw => by
    obtain ⟨⟨so, sn, sc, ao, an, ac, ko, kc, ev, h1, h2, h3, h4, h5, h6⟩, _, _, ht⟩ := h
    injection ev with ev0 ev
    injection ev with ev1 ev
    injection ev with ev2 ev
    injection ev with ev3 ev
    injection ev with ev4 ev
    injection ev with ev5 ev
    subst ev0 ev1 ev2 ev3 ev4 ev5
    obtain ⟨⟨so2, sn2, sc2, ao2, an2, ac2, ko2, kc2, ev, g1, g2, g3, g4, g5, g6⟩, _, _, gt⟩ := g
    injection ev with ev0 ev
    injection ev with ev1 ev
    injection ev with ev2 ev
    injection ev with ev3 ev
    injection ev with ev4 ev
    injection ev with ev5 ev
    subst ev0 ev1 ev2 ev3 ev4 ev5
    exact alike_one _ _ _ _ _ _ so ao ko so2 ao2 ko2 sn sc an ac _ kc sn2 sc2 an2 ac2 _ kc2 _ _ _ _ _ w0 w hw h1 h3 g1 g3 (fun V hV => equalAlk_any d e x.ks y.ks ko ko2 kc kc2 w0 V h5 g5 hV (alike_any d e w0))
end Go.Proofs.YtiahilelcppfgaaGreat
