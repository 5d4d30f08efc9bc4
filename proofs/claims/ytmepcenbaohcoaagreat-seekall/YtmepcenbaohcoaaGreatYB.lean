
/- Contracts of the sort that package seek hands its places to: insertion, ranges changed, parts turned. -/

import Derived.Test.YtmepcenbaohcoaaGreatYA

import Derived.Test.YtmepcenbaohcoaaGreatC13

import Derived.Deep.RegionHeld3

import Derived.RegionTactic

namespace Go.Proofs.YtmepcenbaohcoaaGreat

open Go.RowKit

set_option linter.unusedVariables false

theorem wrY {z : Int} (h1 : -9223372036854775808 ≤ z) (h2 : z ≤ 9223372036854775807) : IntKind.i64.wrap z = z := wrapIn _ (by omega)
theorem nth_setY {zs : List Int} {j k : Nat} {u : Int} (hj : j < zs.length) : nth (zs.set j u) k = if k = j then u else nth zs k := by
  unfold nth
  by_cases h : k = j
  · subst h; simp [hj]
  · rw [if_neg h, List.getD_eq_getElem?_getD, List.getD_eq_getElem?_getD, List.getElem?_set_ne (fun e => h e.symm)]
theorem Ft.setY {e : TypeId} {w : World} {B g : Nat} {n cap : Nat} {zs : List Int} (h : Ft e w B (some ⟨g, 0, none⟩) n cap zs) (j : Nat) (hj : j < n) (u : Int) (h1 : -9223372036854775808 ≤ u) (h2 : u ≤ 9223372036854775807) :
    Ft e (w.setCell ⟨g, j, none⟩ (.int .i64 u)) B (some ⟨g, 0, none⟩) n cap (zs.set j u) := by
  have hl := h.rd.len
  have hs := (h.own.stored j (.int .i64 u)).1
  rw [show (zs.map (Value.int .i64)).set j (.int .i64 u) = (zs.set j u).map (Value.int .i64) by rw [List.map_set]] at hs
  obtain ⟨ao, c, e, hf⟩ := Ft.mk' (zs := zs.set j u) (by rw [List.length_set]; exact hl) h.rd.room (fun k hk => by
    rw [nth_setY (by omega)]
    split
    · exact ⟨h1, h2⟩
    · exact h.rd.num k hk) hs
  cases e
  exact hf
/-- A row of places, in block g of a world that is W below g. -/
structure Ro (g n : Nat) (W V : World) (zs : List Int) : Prop where
  bel : Below g W V
  row : Ft 3 V g (some ⟨g, 0, none⟩) n n zs
theorem Ro.len {g n : Nat} {W V : World} {zs : List Int} (h : Ro g n W V zs) : zs.length = n := h.row.rd.len
theorem Ro.lt {g n : Nat} {W V : World} {zs : List Int} (h : Ro g n W V zs) : g < V.heap.size := by
  rcases h.row.own.2 with ⟨e1, h0⟩ | ⟨g', c, cur, e1, hB2, hg, r⟩
  · cases e1
  · cases e1
    exact (Array.getElem?_eq_some_iff.1 hg).1
theorem Ro.below {g n : Nat} {W V V' : World} {zs : List Int} (h : Ro g n W V zs) (b : Below V.heap.size V V') : Ro g n W V' zs :=
  ⟨h.bel.trans (b.mono (Nat.le_of_lt h.lt)), h.row.below b (Nat.le_refl _)⟩
theorem Ro.drew {g n : Nat} {W V : World} {zs : List Int} (h : Ro g n W V zs) : Ro g n W V.drew zs := h.below (Below.refl _ _).drew
theorem Ro.slot {g n : Nat} {W V : World} {zs : List Int} (h : Ro g n W V zs) {j : Nat} (hj : j < n) : V.cell? ⟨g, j, none⟩ = some (.int .i64 (nth zs j)) ∧ V.frozen? ⟨g, j, none⟩ = false := by
  obtain ⟨b, off, e, hb, hc⟩ := h.row.rd.cells (by omega)
  cases e
  have c := hc j hj
  rw [Nat.zero_add] at c
  rcases h.row.own.2 with ⟨e1, h0⟩ | ⟨g', c', cur, e1, hB2, hg, r⟩
  · cases e1
  · cases e1
    exact ⟨c, frozen_of_row V g j _ _ hg⟩
theorem Ro.swap {g n : Nat} {W V : World} {zs : List Int} (h : Ro g n W V zs) {i j : Nat} (hi : i < n) (hj : j < n) :
    Ro g n W ((V.setCell ⟨g, i, none⟩ (.int .i64 (nth zs j))).setCell ⟨g, j, none⟩ (.int .i64 (nth zs i))) ((zs.set i (nth zs j)).set j (nth zs i)) :=
  ⟨(h.bel.setCell (p := ⟨g, i, none⟩) (Nat.le_refl _) _).setCell (p := ⟨g, j, none⟩) (Nat.le_refl _) _,
    (h.row.setY i hi _ (h.row.rd.num j hj).1 (h.row.rd.num j hj).2).setY j hj _ (h.row.rd.num i hi).1 (h.row.rd.num i hi).2⟩
/-- What the comparison that is handed in tells, wherever nothing below g has changed. -/
def CmpQ (g N : Nat) (W : World) (p q : Option Addr) (c : Int → Int → Int) : Prop := ∀ V, Below g W V → ∀ x y : Int, 0 ≤ x → x < N → 0 ≤ y → y < N →
  Calls Tryz.prog 102 #[.int .i64 x, .int .i64 y, .pointer p, .pointer q] V fun e w' => e = .returned (.int .i64 (c x y)) ∧ Below V.heap.size V w'
def ordV (p q : Option Addr) : Value := .func (.func 102) #[] #[.pointer p, .pointer q]

set_option maxHeartbeats 2000000 in
set_option maxRecDepth 20000 in
theorem insert_any (g n a b N : Nat) (p q : Option Addr) (c : Int → Int → Int) (W w : World) (zs : List Int) (h : Ro g n W w zs) (hc : Cmp3 N c) (hq : CmpQ g N W p q c) (hN : inN N zs) (hab : a ≤ b) (hb : b ≤ n) (hn4 : n ≤ 5000)
    (inc : ∀ i j, a ≤ i → i < j → j < b → nth zs i < nth zs j) :
    Calls Tryz.prog 110 #[.slice (some ⟨g, 0, none⟩) n n, .int .i64 (a : Nat), .int .i64 (b : Nat), ordV p q] w fun e w' => (∃ v, e = .returned v) ∧ ∃ ys, Ro g n W w' ys ∧ PmQ zs ys a b ∧ So c ys a b := by
  unfold ordV
  have HI : Hid (∀ i j, a ≤ i → i < j → j < b → nth zs i < nth zs j) := inc
  have HC : Hid (Cmp3 N c) := hc
  have HQ : Hid (CmpQ g N W p q c) := hq
  have HNN : Hid (inN N zs) := hN
  have HZ : Hid (zs.length = n) := h.len
  have w0 := wrY (z := (a : Int) + 1) (by omega) (by omega)
  clear inc hc hq hN
  go_enter Tryz.func110, Tryz.ntmps110
  go_wp2
  go_loopw [8] (fun i V => ∃ (k : Nat) (ys : List Int), a + 1 ≤ k ∧ (k ≤ b ∨ k = a + 1) ∧ i = .int .i64 (k : Nat) ∧ Ro g n W V ys ∧ PmQ zs ys a (min k b) ∧ So c ys a (min k b)) (fun i _ => b - (intOf i).toNat)
  case atStart => exact ⟨a + 1, zs, Nat.le_refl _, .inr rfl, by go_num, h, PmQ.refl _ _ _, So.none _ _ (by omega)⟩
  case round =>
    obtain ⟨k, ys, hk, hkb, rfl, R, P, S⟩ := hrel
    by_cases hlt : k < b
    · have hm : min k b = k := by omega
      rw [hm] at P S
      have t1 : decide ((k : Int) < (b : Int)) = true := by simp; omega
      have wk := wrY (z := (k : Int) + 1) (by omega) (by omega)
      have HL : Hid (ys.length = n) := R.len
      have YN : Hid (inN N ys) := HNN.out.mv P (by rw [HZ.out]; omega)
      have LT : Hid (∀ t, a ≤ t → t < k → nth ys t < nth ys k) := fun t t1 t2 => by
        obtain ⟨i, i1, i2, e⟩ := P.ins t t1 t2
        rw [e, P.out k (by omega)]
        exact HI.out i k i1 (by omega) hlt
      go_wp2
      go_loopw [9] (fun jv V => ∃ (j : Nat) (us : List Int), a ≤ j ∧ j ≤ k ∧ jv = .int .i64 (j : Nat) ∧ Ro g n W V us ∧ Mv ys us (sink j k) ∧ ∀ t, j ≤ t → t < k → lx c (nth ys k) (nth ys t)) (fun jv _ => (intOf jv).toNat)
      case atStart => exact ⟨k, ys, by omega, Nat.le_refl _, rfl, R, Mv.refl _ (sink_self k), fun t t1 t2 => by omega⟩
      case round =>
        obtain ⟨j, us, ja, jk, rfl, R2, M2, X2⟩ := hrel
        by_cases hja : a < j
        · obtain ⟨t, ht⟩ : ∃ t : Nat, t + 1 = j := ⟨j - 1, by omega⟩
          have ws : IntKind.i64.wrap ((j : Int) - 1) = (t : Int) := (wrapIn _ (by omega)).trans (by omega)
          have d1 : decide ((a : Int) < (j : Int)) = true := by simp; omega
          have bj : (j : Int) < (n : Int) := by omega
          have bt : (t : Int) < (n : Int) := by omega
          have ej : Hid (nth us j = nth ys k) := by unfold Hid; rw [M2.2]; unfold sink; rw [if_pos rfl]
          have et : Hid (nth us t = nth ys t) := by unfold Hid; rw [M2.2]; unfold sink; rw [if_neg (by omega), if_neg (by omega)]
          have y1 := YN.out k (by rw [HL.out]; omega)
          have y2 := YN.out t (by rw [HL.out]; omega)
          have hcmp : ∀ V, Ro g n W V us → Calls Tryz.prog 102 #[.int .i64 (nth us j), .int .i64 (nth us t), .pointer p, .pointer q] V fun e w' => e = .returned (.int .i64 (c (nth us j) (nth us t))) ∧ Ro g n W w' us := fun V HV =>
            (HQ.out V HV.bel _ _ (by rw [ej.out]; exact y1.1) (by rw [ej.out]; exact y1.2) (by rw [et.out]; exact y2.1) (by rw [et.out]; exact y2.2)).mono fun e w' ⟨e1, e2⟩ => ⟨e1, HV.below e2⟩
          have al : ∀ V, Ro g n W V us → V.cell? ⟨g, j, none⟩ = some (.int .i64 (nth us j)) ∧ V.cell? ⟨g, t, none⟩ = some (.int .i64 (nth us t)) ∧ Ro g n W V us := fun V HV => ⟨(HV.slot (by omega)).1, (HV.slot (by omega)).1, HV⟩
          by_cases hcc : c (nth us j) (nth us t) < 0
          · have d2 : decide (c (nth us j) (nth us t) < 0) = true := by simpa using hcc
            go_wp2
            go_region_held3 (fun V => V.cell? ⟨g, j, none⟩ = some (.int .i64 (nth us j)) ∧ V.cell? ⟨g, t, none⟩ = some (.int .i64 (nth us t)) ∧ Ro g n W V us) (first | exact al _ (by assumption) | exact al _ (Ro.drew (by assumption)))
              (first
                | (go_at_call 102; (with_reducible refine (hcmp _ (‹_ ∧ _ ∧ Ro g n W _ us›).2.2).mono ?_); rintro e w5 ⟨rfl, R5⟩))
            have S5 := R5.swap (i := j) (j := t) (by omega) (by omega)
            obtain ⟨c1, f1⟩ := R5.slot (j := j) (by omega)
            obtain ⟨c2, f2⟩ := R5.slot (j := t) (by omega)
            have MS := mv_sw1 (zs := us) (i := j) (j := t) (by rw [R5.len]; omega) (by rw [R5.len]; omega)
            generalize hx : nth us j = x at *
            generalize hy : nth us t = y at *
            clear al hcmp
            go_wp2
            go_region
            all_goals
              go_wp2
              go_roundw
              case rel =>
                refine ⟨t, _, by omega, by omega, rfl, S5.drew, M2.trans MS (fun i => ?_), fun u u1 u2 => ?_⟩
                · subst ht; exact sink_step (by omega) i
                · rcases Nat.lt_or_ge u j with hu | hu
                  · obtain rfl : u = t := by omega
                    rw [← ej.out, ← et.out]; exact .inl hcc
                  · exact X2 u hu u2
              case measure => simp [intOf]; omega
          · have d2 : decide (c (nth us j) (nth us t) < 0) = false := by simpa using hcc
            go_wp2
            go_region_held3 (fun V => V.cell? ⟨g, j, none⟩ = some (.int .i64 (nth us j)) ∧ V.cell? ⟨g, t, none⟩ = some (.int .i64 (nth us t)) ∧ Ro g n W V us) (first | exact al _ (by assumption) | exact al _ (Ro.drew (by assumption)))
              (first
                | (go_at_call 102; (with_reducible refine (hcmp _ (‹_ ∧ _ ∧ Ro g n W _ us›).2.2).mono ?_); rintro e w5 ⟨rfl, R5⟩))
            go_wp2
            go_roundw
            case rel =>
              have q1 : PmQ ys us a (k + 1) := M2.pm (fun i hi => by unfold sink; rw [if_neg (by omega), if_neg (by omega)]) (fun i i1 i2 => by unfold sink; split; omega; split <;> omega)
              have q2 : So c us a (k + 1) := sink_so HC.out YN.out (by rw [HL.out]; omega) ja jk S M2 (fun u u1 u2 => by
                have b1 : lx c (nth ys t) (nth ys k) := lx_not HC.out y2 y1 (LT.out t (by omega) (by omega)) (by rw [← ej.out, ← et.out]; omega)
                rcases Nat.lt_or_ge u t with hu | hu
                · exact lx_trans HC.out (YN.out u (by rw [HL.out]; omega)) y2 y1 (S u t u1 hu (by omega)) b1
                · obtain rfl : u = t := by omega
                  exact b1) X2
              have hm2 : min (k + 1) b = k + 1 := by omega
              exact ⟨k + 1, us, by omega, .inl (by omega), by go_num, R5, by rw [hm2]; exact (P.wide (Nat.le_refl _) (by omega)).trans q1, by rw [hm2]; exact q2⟩
            case measure => simp [intOf]; omega
        · obtain rfl : j = a := by omega
          have d1 : decide ((j : Int) < (j : Int)) = false := by simp
          go_wp2
          go_region
          go_wp2
          go_roundw
          case rel =>
            have q1 : PmQ ys us j (k + 1) := M2.pm (fun i hi => by unfold sink; rw [if_neg (by omega), if_neg (by omega)]) (fun i i1 i2 => by unfold sink; split; omega; split <;> omega)
            have q2 : So c us j (k + 1) := sink_so HC.out YN.out (by rw [HL.out]; omega) ja jk S M2 (fun u u1 u2 => by omega) X2
            have hm2 : min (k + 1) b = k + 1 := by omega
            exact ⟨k + 1, us, by omega, .inl (by omega), by go_num, R2.drew, by rw [hm2]; exact (P.wide (Nat.le_refl _) (by omega)).trans q1, by rw [hm2]; exact q2⟩
          case measure => simp [intOf]; omega
    · have hm : min k b = b := by omega
      rw [hm] at P S
      have t1 : decide ((k : Int) < (b : Int)) = false := by simp; omega
      go_wp2
      go_end0
      exact ⟨⟨_, rfl⟩, ys, R, P, S⟩

set_option maxHeartbeats 2000000 in
set_option maxRecDepth 20000 in
theorem swapR_any (g n a b m : Nat) (p q : Option Addr) (W w : World) (zs : List Int) (h : Ro g n W w zs) (hab : a + m ≤ b) (hb : b + m ≤ n) (hn4 : n ≤ 5000) :
    Calls Tryz.prog 113 #[.slice (some ⟨g, 0, none⟩) n n, .int .i64 (a : Nat), .int .i64 (b : Nat), .int .i64 (m : Nat), ordV p q] w fun e w' => (∃ v, e = .returned v) ∧ ∃ ys, Ro g n W w' ys ∧ Mv zs ys (swN a b m) := by
  unfold ordV
  go_enter Tryz.func113, Tryz.ntmps113
  go_wp2
  go_loopw [10] (fun i V => ∃ (k : Nat) (ys : List Int), k ≤ m ∧ i = .int .i64 (k : Nat) ∧ Ro g n W V ys ∧ Mv zs ys (swN a b k)) (fun i _ => m - (intOf i).toNat)
  case atStart => exact ⟨0, zs, Nat.zero_le _, rfl, h, Mv.refl _ (swN_zero a b)⟩
  case round =>
    obtain ⟨k, ys, hk, rfl, R, M⟩ := hrel
    by_cases hlt : k < m
    · obtain ⟨i, hi⟩ : ∃ i : Nat, i = a + k := ⟨_, rfl⟩
      obtain ⟨j, hj⟩ : ∃ j : Nat, j = b + k := ⟨_, rfl⟩
      have t1 : decide ((k : Int) < (m : Int)) = true := by simp; omega
      have wi : IntKind.i64.wrap ((a : Int) + (k : Int)) = (i : Int) := (wrapIn _ (by omega)).trans (by omega)
      have wj : IntKind.i64.wrap ((b : Int) + (k : Int)) = (j : Int) := (wrapIn _ (by omega)).trans (by omega)
      have wk := wrY (z := (k : Int) + 1) (by omega) (by omega)
      have bi : (i : Int) < (n : Int) := by omega
      have bj : (j : Int) < (n : Int) := by omega
      have HH : Hid (i = a + k ∧ j = b + k) := ⟨hi, hj⟩
      have S5 := R.swap (i := i) (j := j) (by omega) (by omega)
      obtain ⟨c1, f1⟩ := R.slot (j := i) (by omega)
      obtain ⟨c2, f2⟩ := R.slot (j := j) (by omega)
      have MS := mv_sw1 (zs := ys) (i := i) (j := j) (by rw [R.len]; omega) (by rw [R.len]; omega)
      have le := R.len
      generalize hx : nth ys i = x at *
      generalize hy : nth ys j = y at *
      have hij : i < j := by omega
      clear hi hj hx hy
      go_wp2
      go_region
      all_goals
        go_wp2
        go_roundw
        case rel => exact ⟨k + 1, _, by omega, by go_num, S5.drew, M.trans MS (fun u => by rw [HH.out.1, HH.out.2]; exact swN_step hab hlt u)⟩
        case measure => simp [intOf]; omega
    · obtain rfl : k = m := by omega
      have t1 : decide ((k : Int) < (k : Int)) = false := by simp
      go_wp2
      go_end0
      exact ⟨⟨_, rfl⟩, ys, R, M⟩

set_option maxHeartbeats 2000000 in
set_option maxRecDepth 20000 in
theorem rotate_any (g n a m b : Nat) (p q : Option Addr) (W w : World) (zs : List Int) (h : Ro g n W w zs) (ham : a < m) (hmb : m < b) (hb : b ≤ n) (hn4 : n ≤ 5000) :
    Calls Tryz.prog 112 #[.slice (some ⟨g, 0, none⟩) n n, .int .i64 (a : Nat), .int .i64 (m : Nat), .int .i64 (b : Nat), ordV p q] w fun e w' => (∃ v, e = .returned v) ∧ ∃ ys, Ro g n W w' ys ∧ Mv zs ys (rotN a m b) := by
  have hsw := fun (x y z : Nat) V us (HV : Ro g n W V us) h1 h2 => swapR_any g n x y z p q W V us HV h1 h2 hn4
  unfold ordV at *
  obtain ⟨i0, hi0⟩ : ∃ i0 : Nat, a + i0 = m := ⟨m - a, by omega⟩
  obtain ⟨j0, hj0⟩ : ∃ j0 : Nat, m + j0 = b := ⟨b - m, by omega⟩
  have v0 : IntKind.i64.wrap ((m : Int) - (a : Int)) = (i0 : Int) := (wrapIn _ (by omega)).trans (by omega)
  have v1 : IntKind.i64.wrap ((b : Int) - (m : Int)) = (j0 : Int) := (wrapIn _ (by omega)).trans (by omega)
  go_enter Tryz.func112, Tryz.ntmps112
  go_wp2
  go_loopw [10, 11] (fun iv jv V => ∃ (i j : Nat) (ys : List Int), 0 < i ∧ 0 < j ∧ i ≤ i0 ∧ j ≤ j0 ∧ iv = .int .i64 (i : Nat) ∧ jv = .int .i64 (j : Nat) ∧ Ro g n W V ys ∧ ∀ us, Mv ys us (rotN (m - i) m (m + j)) → Mv zs us (rotN a m b)) (fun iv jv _ => (intOf iv).toNat + (intOf jv).toNat)
  case atStart => exact ⟨i0, j0, zs, by omega, by omega, Nat.le_refl _, Nat.le_refl _, rfl, rfl, h, fun us hu => by rwa [show m - i0 = a by omega, show m + j0 = b by omega] at hu⟩
  case round =>
    obtain ⟨i, j, ys, hi, hj, hi', hj', rfl, rfl, R, G⟩ := hrel
    obtain ⟨mi, hmi⟩ : ∃ mi : Nat, mi = m - i := ⟨_, rfl⟩
    have u0 : IntKind.i64.wrap ((m : Int) - (i : Int)) = (mi : Int) := (wrapIn _ (by omega)).trans (by omega)
    by_cases hne : i = j
    · subst hne
      have t1 : ((i : Int) != (i : Int)) = false := by simp
      have hc := hsw mi m i _ _ R (by omega) (by omega)
      have HM : Hid (mi = m - i) := hmi
      clear hmi
      go_wp2_with (go_at_call 113; (with_reducible refine hc.mono ?_); rintro e w2 ⟨⟨v, rfl⟩, us, R2, M2⟩)
      go_end0
      exact ⟨⟨_, rfl⟩, us, R2, G us (by rw [HM.out] at M2; exact ⟨M2.1, fun k => by rw [M2.2, rotN_eq (by omega)]⟩)⟩
    · have t1 : ((i : Int) != (j : Int)) = true := by simp; omega
      by_cases hgt : j < i
      · have t2 : decide ((j : Int) < (i : Int)) = true := by simp; omega
        obtain ⟨d, hd⟩ : ∃ d : Nat, d + j = i := ⟨i - j, by omega⟩
        have u1 : IntKind.i64.wrap ((i : Int) - (j : Int)) = (d : Int) := (wrapIn _ (by omega)).trans (by omega)
        have hc := hsw mi m j _ _ R (by omega) (by omega)
        have HM : Hid (mi = m - i ∧ d + j = i) := ⟨hmi, hd⟩
        clear hmi hd
        go_wp2_with (go_at_call 113; (with_reducible refine hc.mono ?_); rintro e w2 ⟨⟨v, rfl⟩, us, R2, M2⟩)
        go_roundw
        case rel =>
          obtain ⟨hmi, hd⟩ := HM.out
          refine ⟨d, j, us, by omega, hj, by omega, hj', rfl, rfl, R2, fun vs hv => G vs ?_⟩
          refine M2.trans hv (fun k => ?_)
          rw [hmi, show d = i - j by omega]
          exact rotN_gt (by omega) hgt k
        case measure => simp [intOf]; have := HM.out; omega
      · have t2 : decide ((j : Int) < (i : Int)) = false := by simp; omega
        obtain ⟨d, hd⟩ : ∃ d : Nat, d + i = j := ⟨j - i, by omega⟩
        obtain ⟨mj, hmj⟩ : ∃ mj : Nat, mj = m + d := ⟨_, rfl⟩
        have u1 : IntKind.i64.wrap ((j : Int) - (i : Int)) = (d : Int) := (wrapIn _ (by omega)).trans (by omega)
        have u2 := wrY (z := (m : Int) + (j : Int)) (by omega) (by omega)
        have u3 : IntKind.i64.wrap ((m : Int) + (j : Int) - (i : Int)) = (mj : Int) := (wrapIn _ (by omega)).trans (by omega)
        have hc := hsw mi mj i _ _ R (by omega) (by omega)
        have HM : Hid (mi = m - i ∧ d + i = j ∧ mj = m + d) := ⟨hmi, hd, hmj⟩
        clear hmi hd hmj
        go_wp2_with (go_at_call 113; (with_reducible refine hc.mono ?_); rintro e w2 ⟨⟨v, rfl⟩, us, R2, M2⟩)
        go_roundw
        case rel =>
          obtain ⟨hmi, hd, hmj⟩ := HM.out
          refine ⟨i, d, us, hi, by omega, hi', by omega, rfl, rfl, R2, fun vs hv => G vs ?_⟩
          refine M2.trans hv (fun k => ?_)
          rw [hmi, hmj, show d = j - i by omega]
          exact rotN_lt (by omega) (by omega) k
        case measure => simp [intOf]; have := HM.out; omega
end Go.Proofs.YtmepcenbaohcoaaGreat
