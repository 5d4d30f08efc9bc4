
/- SeekFound: the law. -/

import Derived.Test.YtlncjmeabonpfaaYV
import Derived.Test.YtlncjmeabonpfaaYY
import Derived.Test.YtlncjmeabonpfaaYRb



namespace Go.Proofs.Ytlncjmeabonpfaa

open Go.RowKit

set_option linter.unusedVariables false

theorem Ar.lowF {V V' : World} {B g : Nat} {o : Option Addr} {n c : Nat} {p : Option Addr} {m d : Nat} {S A : List Int} (h : Ar V g o n c p m d S A) (k : Below B V V') (hB : V.heap.size ≤ B) : Ar V' g o n c p m d S A :=
  ⟨(k.block g (Nat.lt_of_lt_of_le (Array.getElem?_eq_some_iff.1 h.box).1 hB)).trans h.box, h.s.below k hB, h.a.below k hB⟩
theorem flt_at (p : Nat → Bool) (k : Nat) (hp : p k = true) : ∀ m, k < m → (flt p k).length < (flt p m).length ∧ nth (flt p m) (flt p k).length = (k : Int)
  | 0, h => by omega
  | m + 1, h => by
    rw [flt_succ]
    rcases Nat.lt_or_ge k m with x | x
    · obtain ⟨a, b⟩ := flt_at p k hp m x
      refine ⟨by rw [List.length_append]; omega, ?_⟩
      rw [← b]
      unfold nth
      simp [List.getElem?_append, a]
    · obtain rfl : m = k := by omega
      rw [if_pos hp]
      refine ⟨by simp, ?_⟩
      unfold nth
      simp
theorem smA (V : World) (so ao uo bo : Option Addr) (sn sc an ac tn tc bn bc : Nat) (t u : List Int × List Int) (h : Rd V so sn t.1) (g : Rd V ao an t.2) (p : Rd V uo tn u.1) (q : Rd V bo bn u.2) :
    Calls Try.prog 13 #[.agg #[.slice so sn sc, .slice ao an ac], .agg #[.slice uo tn tc, .slice bo bn bc]] V fun e w' => e = .returned (.bool (decide (t = u))) ∧ Below V.heap.size V w' :=
  (same_any so ao uo bo sn sc an ac tn tc bn bc _ _ _ _ V h g p q).mono fun e w' ⟨e1, e2⟩ => ⟨by
    rw [e1]
    congr 2
    by_cases e : t = u
    · subst e
      rw [decide_eq_true rfl]
      exact (eqA_iff _ _ _ _).2 ⟨rfl, rfl⟩
    · rw [decide_eq_false e]
      cases hh : eqA t.1 t.2 u.1 u.2 with
      | false => rfl
      | true => exact absurd (Prod.ext ((eqA_iff _ _ _ _).1 hh).1 ((eqA_iff _ _ _ _).1 hh).2) e, e2⟩

set_option maxHeartbeats 2000000 in
set_option maxRecDepth 20000 in
theorem found_xb (so : Option Addr) (sn sc : Nat) (ao : Option Addr) (an ac : Nat) (uo : Option Addr) (un uc : Nat) (bo : Option Addr) (bn bc : Nat) (sh at' th bt' : List Int) (w : World) (h : Rd w so sn sh) (hs : Sl so sn sc) (g : Rd w ao an at') (gs : Sl ao an ac) (h2 : Rd w uo un th) (hs2 : Sl uo un uc) (g2 : Rd w bo bn bt') (gs2 : Sl bo bn bc) (mx : mayA sh at' ≠ 0) :
    Calls Try.prog 5 #[.agg #[.slice so sn sc, .slice ao an ac], .agg #[.slice uo un uc, .slice bo bn bc]] w fun e w' => e = .returned (.bool true) ∧ Below w.heap.size w w' := by
  have I0 := f0_start w so sn sc ao an ac uo un uc bo bn bc sh at' th bt' h g h2 g2
  have cX := fun V (I : Ar V w.heap.size so sn sc ao an ac sh at') => mayA_any so ao sn sc an ac sh at' V I.s I.a
  have cY := fun V (I : Ar V (w.heap.size + 1) uo un uc bo bn bc th bt') => mayA_any uo bo un uc bn bc th bt' V I.s I.a
  generalize mayA sh at' = M at *
  have t1 : (M != 0) = true := by simpa using mx
  clear mx
  obtain ⟨x0, x1, _, _⟩ := box2 I0.x.box
  obtain ⟨x2, x3, _, _⟩ := box2 I0.y.box
  go_enter Try.func5, Try.ntmps5
  go_wp2_with (first
    | (go_at_call 7; (with_reducible refine (begun7_any _).mono ?_); rintro e W1 ⟨rfl, k1⟩; have I1 := I0.below k1; obtain ⟨p0, p1, _, _⟩ := box2 I1.x.box)
    | (go_at_call 8; (with_reducible refine (cX _ I1.x).mono ?_); rintro e W2 ⟨rfl, k2⟩; have I2 := I1.below k2; obtain ⟨q2, q3, _, _⟩ := box2 I2.y.box))
  go_ret
  exact ⟨rfl, I2.bel⟩

set_option maxHeartbeats 2000000 in
set_option maxRecDepth 20000 in
theorem found_yb (so : Option Addr) (sn sc : Nat) (ao : Option Addr) (an ac : Nat) (uo : Option Addr) (un uc : Nat) (bo : Option Addr) (bn bc : Nat) (sh at' th bt' : List Int) (w : World) (h : Rd w so sn sh) (hs : Sl so sn sc) (g : Rd w ao an at') (gs : Sl ao an ac) (h2 : Rd w uo un th) (hs2 : Sl uo un uc) (g2 : Rd w bo bn bt') (gs2 : Sl bo bn bc) (mx : mayA sh at' = 0) (my : mayA th bt' ≠ 0) :
    Calls Try.prog 5 #[.agg #[.slice so sn sc, .slice ao an ac], .agg #[.slice uo un uc, .slice bo bn bc]] w fun e w' => e = .returned (.bool true) ∧ Below w.heap.size w w' := by
  have I0 := f0_start w so sn sc ao an ac uo un uc bo bn bc sh at' th bt' h g h2 g2
  have cX := fun V (I : Ar V w.heap.size so sn sc ao an ac sh at') => mayA_any so ao sn sc an ac sh at' V I.s I.a
  have cY := fun V (I : Ar V (w.heap.size + 1) uo un uc bo bn bc th bt') => mayA_any uo bo un uc bn bc th bt' V I.s I.a
  rw [mx] at cX
  generalize mayA th bt' = M at *
  have t1 : (M != 0) = true := by simpa using my
  clear my mx
  obtain ⟨x0, x1, _, _⟩ := box2 I0.x.box
  obtain ⟨x2, x3, _, _⟩ := box2 I0.y.box
  go_enter Try.func5, Try.ntmps5
  go_wp2_with (first
    | (go_at_call 7; (with_reducible refine (begun7_any _).mono ?_); rintro e W1 ⟨rfl, k1⟩; have I1 := I0.below k1; obtain ⟨p0, p1, _, _⟩ := box2 I1.x.box)
    | (go_at_call 8; (with_reducible refine (cX _ I1.x).mono ?_); rintro e W2 ⟨rfl, k2⟩; have I2 := I1.below k2; obtain ⟨q2, q3, _, _⟩ := box2 I2.y.box)
    | (go_at_call 8; (with_reducible refine (cY _ I2.y).mono ?_); rintro e W3 ⟨rfl, k3⟩; have I3 := I2.below k3; obtain ⟨v0, v1, _, _⟩ := box2 I3.x.box; obtain ⟨v2, v3, _, _⟩ := box2 I3.y.box))
  go_ret
  exact ⟨rfl, I3.bel⟩

set_option maxHeartbeats 2000000 in
set_option maxRecDepth 20000 in
theorem found_r0 (so : Option Addr) (sn sc : Nat) (ao : Option Addr) (an ac : Nat) (uo : Option Addr) (un uc : Nat) (bo : Option Addr) (bn bc : Nat) (sh at' th bt' : List Int) (w : World) (h : Rd w so sn sh) (hs : Sl so sn sc) (g : Rd w ao an at') (gs : Sl ao an ac) (h2 : Rd w uo un th) (hs2 : Sl uo un uc) (g2 : Rd w bo bn bt') (gs2 : Sl bo bn bc) (mx : mayA sh at' = 0) (my : mayA th bt' = 0) (hk : sn = 0) :
    Calls Try.prog 5 #[.agg #[.slice so sn sc, .slice ao an ac], .agg #[.slice uo un uc, .slice bo bn bc]] w fun e w' => e = .returned (.bool true) ∧ Below w.heap.size w w' := by
  have I0 := f0_start w so sn sc ao an ac uo un uc bo bn bc sh at' th bt' h g h2 g2
  have cX := fun V (I : Ar V w.heap.size so sn sc ao an ac sh at') => mayA_any so ao sn sc an ac sh at' V I.s I.a
  have cY := fun V (I : Ar V (w.heap.size + 1) uo un uc bo bn bc th bt') => mayA_any uo bo un uc bn bc th bt' V I.s I.a
  rw [mx] at cX
  rw [my] at cY
  have t1 : ((sn : Int) == 0) = true := by simp; omega
  clear my mx hk
  obtain ⟨x0, x1, _, _⟩ := box2 I0.x.box
  obtain ⟨x2, x3, _, _⟩ := box2 I0.y.box
  go_enter Try.func5, Try.ntmps5
  go_wp2_with (first
    | (go_at_call 7; (with_reducible refine (begun7_any _).mono ?_); rintro e W1 ⟨rfl, k1⟩; have I1 := I0.below k1; obtain ⟨p0, p1, _, _⟩ := box2 I1.x.box)
    | (go_at_call 8; (with_reducible refine (cX _ I1.x).mono ?_); rintro e W2 ⟨rfl, k2⟩; have I2 := I1.below k2; obtain ⟨q2, q3, _, _⟩ := box2 I2.y.box)
    | (go_at_call 8; (with_reducible refine (cY _ I2.y).mono ?_); rintro e W3 ⟨rfl, k3⟩; have I3 := I2.below k3; obtain ⟨v0, v1, _, _⟩ := box2 I3.x.box; obtain ⟨v2, v3, _, _⟩ := box2 I3.y.box))
  go_ret
  exact ⟨rfl, I3.bel⟩

set_option maxHeartbeats 2000000 in
set_option maxRecDepth 20000 in
theorem found_rn (so : Option Addr) (sn sc : Nat) (ao : Option Addr) (an ac : Nat) (uo : Option Addr) (un uc : Nat) (bo : Option Addr) (bn bc : Nat) (sh at' th bt' : List Int) (w : World) (h : Rd w so sn sh) (hs : Sl so sn sc) (g : Rd w ao an at') (gs : Sl ao an ac) (h2 : Rd w uo un th) (hs2 : Sl uo un uc) (g2 : Rd w bo bn bt') (gs2 : Sl bo bn bc) (mx : mayA sh at' = 0) (my : mayA th bt' = 0) (hk : sn ≠ 0) (hne : sn ≠ un) :
    Calls Try.prog 5 #[.agg #[.slice so sn sc, .slice ao an ac], .agg #[.slice uo un uc, .slice bo bn bc]] w fun e w' => e = .returned (.bool true) ∧ Below w.heap.size w w' := by
  have I0 := f0_start w so sn sc ao an ac uo un uc bo bn bc sh at' th bt' h g h2 g2
  have cX := fun V (I : Ar V w.heap.size so sn sc ao an ac sh at') => mayA_any so ao sn sc an ac sh at' V I.s I.a
  have cY := fun V (I : Ar V (w.heap.size + 1) uo un uc bo bn bc th bt') => mayA_any uo bo un uc bn bc th bt' V I.s I.a
  rw [mx] at cX
  rw [my] at cY
  have t1 : ((sn : Int) == 0) = false := by simp; omega
  have t2 : ((sn : Int) != (un : Int)) = true := by simp; omega
  clear my mx hk hne
  obtain ⟨x0, x1, _, _⟩ := box2 I0.x.box
  obtain ⟨x2, x3, _, _⟩ := box2 I0.y.box
  go_enter Try.func5, Try.ntmps5
  go_wp2_with (first
    | (go_at_call 7; (with_reducible refine (begun7_any _).mono ?_); rintro e W1 ⟨rfl, k1⟩; have I1 := I0.below k1; obtain ⟨p0, p1, _, _⟩ := box2 I1.x.box)
    | (go_at_call 8; (with_reducible refine (cX _ I1.x).mono ?_); rintro e W2 ⟨rfl, k2⟩; have I2 := I1.below k2; obtain ⟨q2, q3, _, _⟩ := box2 I2.y.box)
    | (go_at_call 8; (with_reducible refine (cY _ I2.y).mono ?_); rintro e W3 ⟨rfl, k3⟩; have I3 := I2.below k3; obtain ⟨v0, v1, _, _⟩ := box2 I3.x.box; obtain ⟨v2, v3, _, _⟩ := box2 I3.y.box))
  go_ret
  exact ⟨rfl, I3.bel⟩

set_option maxHeartbeats 16000000 in
set_option maxRecDepth 20000 in
theorem found_go (so : Option Addr) (sn sc : Nat) (ao : Option Addr) (an ac : Nat) (uo : Option Addr) (un uc : Nat) (bo : Option Addr) (bn bc : Nat) (sh at' th bt' : List Int) (w : World) (h : Rd w so sn sh) (hs : Sl so sn sc) (g : Rd w ao an at') (gs : Sl ao an ac) (h2 : Rd w uo un th) (hs2 : Sl uo un uc) (g2 : Rd w bo bn bt') (gs2 : Sl bo bn bc) (mx : mayA sh at' = 0) (my : mayA th bt' = 0) (hk : sn ≠ 0) (hne : sn = un) :
    Calls Try.prog 5 #[.agg #[.slice so sn sc, .slice ao an ac], .agg #[.slice uo un uc, .slice bo bn bc]] w fun e w' => e = .returned (.bool true) ∧ Below w.heap.size w w' := by
  have I0 := f0_start w so sn sc ao an ac uo un uc bo bn bc sh at' th bt' h g h2 g2
  have cX := fun V (I : Ar V w.heap.size so sn sc ao an ac sh at') => mayA_any so ao sn sc an ac sh at' V I.s I.a
  have cY := fun V (I : Ar V (w.heap.size + 1) uo un uc bo bn bc th bt') => mayA_any uo bo un uc bn bc th bt' V I.s I.a
  have cTX := fun V (I : Ar V w.heap.size so sn sc ao an ac sh at') => items_any so ao sn sc an ac sh at' V I.s I.a
  have cTY := fun V (I : Ar V (w.heap.size + 1) uo un uc bo bn bc th bt') => items_any uo bo un uc bn bc th bt' V I.s I.a
  rw [mx] at cX
  rw [my] at cY
  rw [show itm sh at' = tal sh from if_pos mx, ← itN_tal (mayA_zero mx).1] at cTX
  rw [show itm th bt' = tal th from if_pos my, ← itN_tal (mayA_zero my).1] at cTY
  have hsl := h.len
  have htl := h2.len
  have ha2 : ahd th = 1 := by unfold ahd; omega
  have e1 : frN un sn = 1 := by unfold frN; omega
  have ec : ∀ t, ecL t (cux th bt' (frN un sn)) (cun th (frN un sn)) = ecL t (itX th bt') (itN th) := fun t => by rw [e1]; unfold itX itN; rw [ha2]
  have hn4 := itN_le (mayA_zero mx).1
  have hm4 := itN_le (mayA_zero my).1
  have cA := fun V (I : F0 w V so sn sc ao an ac uo un uc bo bn bc sh at' th bt') => dyadS_iota so ao uo bo sn sc an ac un uc bn bc sh at' th bt' (fun S A => S = th.take 1 ∧ A = ecL (tP (itX sh at') (itN sh)) (itX th bt') (itN th)) 0 V I.x.s I.x.a I.y.s I.y.a mx my (fun U k => (placeIn_any so ao uo bo sn sc an ac un uc bn bc sh at' th bt' U (I.x.s.below k (Nat.le_refl _)) hs (I.x.a.below k (Nat.le_refl _)) gs mx (I.y.s.below k (Nat.le_refl _)) hs2 (I.y.a.below k (Nat.le_refl _)) gs2 my).mono fun e w' ⟨o1, n1, c1, o2, n2, c2, he, f1, f2, b⟩ => ⟨o1, n1, c1, o2, n2, c2, _, _, he, f1, f2, ⟨by rw [e1], ec _⟩, b⟩)
  have cB := fun V (I : F0 w V so sn sc ao an ac uo un uc bo bn bc sh at' th bt') => dyadS_in uo bo so ao un uc bn bc sn sc an ac th bt' sh at' (fun S A => S = th.take 1 ∧ A = ecL (tI (itX sh at') (itN sh)) (itX th bt') (itN th)) 0 V I.y.s I.y.a I.x.s I.x.a my mx (fun U k => (isIn_any uo bo so ao un uc bn bc sn sc an ac th bt' sh at' U (I.y.s.below k (Nat.le_refl _)) hs2 (I.y.a.below k (Nat.le_refl _)) gs2 my (I.x.s.below k (Nat.le_refl _)) hs (I.x.a.below k (Nat.le_refl _)) gs mx).mono fun e w' ⟨o1, n1, c1, o2, n2, c2, he, f1, f2, b⟩ => ⟨o1, n1, c1, o2, n2, c2, _, _, he, f1, f2, ⟨by rw [e1], ec _⟩, b⟩)
  have cC := fun V (I : F0 w V so sn sc ao an ac uo un uc bo bn bc sh at' th bt') => dyadS_not uo bo so ao un uc bn bc sn sc an ac th bt' sh at' _ 0 V I.y.s I.y.a I.x.s I.x.a my mx (fun U k => without_any uo bo so ao un uc bn bc sn sc an ac th bt' sh at' U (I.y.s.below k (Nat.le_refl _)) hs2 (I.y.a.below k (Nat.le_refl _)) gs2 my (I.x.s.below k (Nat.le_refl _)) hs (I.x.a.below k (Nat.le_refl _)) gs mx)
  have hlf := flt_len (woB (itX th bt') (itX sh at') (itN sh)) (itN th)
  obtain ⟨hmc, hnc, hxc⟩ := cho_may (ps := flt (woB (itX th bt') (itX sh at') (itN sh)) (itN th)) my hlf rfl (fun i hi => flt_mem (nth_mem hi))
  have HIX : Hid (∀ k, k < itN sh → itmE sh at' k = 0 ∧ itmS sh at' k = (itX sh at' k).1 ∧ itmA sh at' k = (itX sh at' k).2) := fun k hk => itX_itm mx hk
  have HIY : Hid (∀ k, k < itN th → itmE th bt' k = 0 ∧ itmS th bt' k = (itX th bt' k).1 ∧ itmA th bt' k = (itX th bt' k).2) := fun k hk => itX_itm my hk
  have cIX : ∀ V, Ar V w.heap.size so sn sc ao an ac sh at' → ∀ (j : Nat), j < itN sh → Calls Try.prog 12 #[.agg #[.slice so sn sc, .slice ao an ac], .int .i64 (j : Nat)] V (fun e w' => ∃ o1 n1 c1 o2 n2 c2, e = .returned (.tuple #[.agg #[.slice o1 n1 c1, .slice o2 n2 c2], .int .i64 0]) ∧ Ft 3 w' V.heap.size o1 n1 c1 (itX sh at' j).1 ∧ Ft 2 w' V.heap.size o2 n2 c2 (itX sh at' j).2 ∧ Below V.heap.size V w') := fun V I j hj => (item_any so ao sn sc an ac sh at' (j : Int) V I.s hs I.a gs).mono (by
    rintro e w' ⟨o1, n1, c1, o2, n2, c2, rfl, f1, f2, _, b⟩
    obtain ⟨q1, q2, q3⟩ := HIX.out j hj
    rw [q2] at f1
    rw [q3] at f2
    exact ⟨o1, n1, c1, o2, n2, c2, by rw [q1], f1, f2, b⟩)
  have cIY : ∀ V, Ar V (w.heap.size + 1) uo un uc bo bn bc th bt' → ∀ (j : Nat), j < itN th → Calls Try.prog 12 #[.agg #[.slice uo un uc, .slice bo bn bc], .int .i64 (j : Nat)] V (fun e w' => ∃ o1 n1 c1 o2 n2 c2, e = .returned (.tuple #[.agg #[.slice o1 n1 c1, .slice o2 n2 c2], .int .i64 0]) ∧ Ft 3 w' V.heap.size o1 n1 c1 (itX th bt' j).1 ∧ Ft 2 w' V.heap.size o2 n2 c2 (itX th bt' j).2 ∧ Below V.heap.size V w') := fun V I j hj => (item_any uo bo un uc bn bc th bt' (j : Int) V I.s hs2 I.a gs2).mono (by
    rintro e w' ⟨o1, n1, c1, o2, n2, c2, rfl, f1, f2, _, b⟩
    obtain ⟨q1, q2, q3⟩ := HIY.out j hj
    rw [q2] at f1
    rw [q3] at f2
    exact ⟨o1, n1, c1, o2, n2, c2, by rw [q1], f1, f2, b⟩)
  obtain ⟨p, hp⟩ : ∃ p, woB (itX th bt') (itX sh at') (itN sh) = p := ⟨_, rfl⟩
  rw [hp] at cC hlf hmc hnc hxc
  have HP : Hid (∀ k, p k = !decide (fsq (itX sh at') (itN sh) (itX th bt' k) < itN sh)) := fun k => by rw [← hp]; rfl
  have cIC : ∀ V gc oc nc cc pc mc dc, Sl oc nc cc → Sl pc mc dc → Ar V gc oc nc cc pc mc dc (((flt p (itN th)).length : Int) :: th.drop 1) (chA (itX th bt') (flt p (itN th)) (flt p (itN th)).length) → ∀ (l k : Nat), l < (flt p (itN th)).length → nth (flt p (itN th)) l = (k : Int) → Calls Try.prog 12 #[.agg #[.slice oc nc cc, .slice pc mc dc], .int .i64 (l : Nat)] V (fun e w' => ∃ o1 n1 c1 o2 n2 c2, e = .returned (.tuple #[.agg #[.slice o1 n1 c1, .slice o2 n2 c2], .int .i64 0]) ∧ Ft 3 w' V.heap.size o1 n1 c1 (itX th bt' k).1 ∧ Ft 2 w' V.heap.size o2 n2 c2 (itX th bt' k).2 ∧ Below V.heap.size V w') := fun V gc oc nc cc pc mc dc s1 s2 I l k hl hj => (item_any oc pc nc cc mc dc _ _ (l : Int) V I.s s1 I.a s2).mono (by
    rintro e w' ⟨o1, n1, c1, o2, n2, c2, rfl, f1, f2, _, b⟩
    obtain ⟨q1, q2, q3⟩ := itX_itm hmc (k := l) (by rw [hnc]; exact hl)
    have q4 := hxc l hl
    rw [hj, Int.toNat_natCast] at q4
    rw [q4] at q2 q3
    rw [q2] at f1
    rw [q3] at f2
    exact ⟨o1, n1, c1, o2, n2, c2, by rw [q1], f1, f2, b⟩)
  have eTc : itm (((flt p (itN th)).length : Int) :: th.drop 1) (chA (itX th bt') (flt p (itN th)) (flt p (itN th)).length) = ((flt p (itN th)).length : Int) := by rw [show itm (((flt p (itN th)).length : Int) :: th.drop 1) (chA (itX th bt') (flt p (itN th)) (flt p (itN th)).length) = tal (((flt p (itN th)).length : Int) :: th.drop 1) from if_pos hmc, ← itN_tal (mayA_zero hmc).1, hnc]
  have cTC := fun V gc oc nc cc pc mc dc (I : Ar V gc oc nc cc pc mc dc (((flt p (itN th)).length : Int) :: th.drop 1) (chA (itX th bt') (flt p (itN th)) (flt p (itN th)).length)) => items_any oc pc nc cc mc dc _ _ V I.s I.a
  have cMC := fun V gc oc nc cc pc mc dc (I : Ar V gc oc nc cc pc mc dc (((flt p (itN th)).length : Int) :: th.drop 1) (chA (itX th bt') (flt p (itN th)) (flt p (itN th)).length)) => mayA_any oc pc nc cc mc dc _ _ V I.s I.a
  rw [hmc] at cMC
  rw [eTc] at cTC
  have HLC : Hid ((((flt p (itN th)).length : Int) :: th.drop 1).length = un) := by show _ = _; rw [List.length_cons, List.length_drop, htl]; omega
  have HTK : Hid ((th.take 1).length = 1) := by show _ = _; rw [List.length_take, htl]; omega
  generalize itX sh at' = xs at *
  generalize itX th bt' = ys at *
  generalize itN sh = n at *
  generalize itN th = m at *
  have HFL : Hid (∀ k, p k = true → k < m → (flt p k).length < (flt p m).length ∧ nth (flt p m) (flt p k).length = (k : Int)) := fun k h1 h2 => flt_at p k h1 m h2
  have t1 : ((sn : Int) == 0) = false := by simp; omega
  have t2 : ((sn : Int) != (un : Int)) = false := by simp; omega
  have tm : ((m : Int) != (m : Int)) = false := by simp
  clear mx my hk hne ec e1 ha2 hsl htl hmc hnc hxc eTc hp
  obtain ⟨x0, x1, _, _⟩ := box2 I0.x.box
  obtain ⟨x2, x3, _, _⟩ := box2 I0.y.box
  go_enter Try.func5, Try.ntmps5
  go_upto_region 5 with (first
    | (go_at_call 7; (with_reducible refine (begun7_any _).mono ?_); rintro e W1 ⟨rfl, k1⟩; have I1 := I0.below k1; obtain ⟨p0, p1, _, _⟩ := box2 I1.x.box)
    | (go_at_call 8; (with_reducible refine (cX _ I1.x).mono ?_); rintro e W2 ⟨rfl, k2⟩; have I2 := I1.below k2; obtain ⟨q2, q3, _, _⟩ := box2 I2.y.box)
    | (go_at_call 8; (with_reducible refine (cY _ I2.y).mono ?_); rintro e W3 ⟨rfl, k3⟩; have I3 := I2.below k3; obtain ⟨v0, v1, _, _⟩ := box2 I3.x.box; obtain ⟨v2, v3, _, _⟩ := box2 I3.y.box))
  have al : ∀ V, F0 w V so sn sc ao an ac uo un uc bo bn bc sh at' th bt' → V.cell? ⟨w.heap.size, 0, none⟩ = some (.slice so sn sc) ∧ V.cell? ⟨w.heap.size, 1, none⟩ = some (.slice ao an ac) ∧ V.cell? ⟨w.heap.size + 1, 0, none⟩ = some (.slice uo un uc) ∧ V.cell? ⟨w.heap.size + 1, 1, none⟩ = some (.slice bo bn bc) := fun V I => ⟨(box2 I.x.box).1, (box2 I.x.box).2.1, (box2 I.y.box).1, (box2 I.y.box).2.1⟩
  have I3d : F0 w W3.drew so sn sc ao an ac uo un uc bo bn bc sh at' th bt' := I3.below (Below.refl _ _).drew
  clear I0 I1 I2 k1 k2 k3 x0 x1 x2 x3 p0 p1 q2 q3 cX cY
  go_region_held3 (fun V => V.cell? ⟨w.heap.size, 0, none⟩ = some (.slice so sn sc) ∧ V.cell? ⟨w.heap.size, 1, none⟩ = some (.slice ao an ac) ∧ V.cell? ⟨w.heap.size + 1, 0, none⟩ = some (.slice uo un uc) ∧ V.cell? ⟨w.heap.size + 1, 1, none⟩ = some (.slice bo bn bc)) (first | exact al _ I3d | exact al _ I4 | exact al _ I5)
    (first
      | (go_at_call 10; (with_reducible refine (cTX _ I3d.x).mono ?_); rintro e W4 ⟨rfl, k4⟩; have I4 := I3d.below k4)
      | (go_at_call 10; (with_reducible refine (cTY _ I4.y).mono ?_); rintro e W5 ⟨rfl, k5⟩; have I5 := I4.below k5))
  obtain ⟨x0, x1, _, _⟩ := box2 I5.x.box
  obtain ⟨x2, x3, _, _⟩ := box2 I5.y.box
  clear al I3 I3d I4 k4 k5 v0 v1 v2 v3 cTX cTY
  go_wp2_with (first
    | (go_at_call 11; (with_reducible refine (cA _ I5).mono ?_); rintro e W6 ⟨oa, na, ca, pa, ma, da, SA, AA, rfl, f6, g6, ⟨rfl, rfl⟩, k6⟩; have kb6 := box_below W6 (.cells #[.slice oa na ca, .slice pa ma da] 25); have I6 := (I5.below k6).below kb6; have A6 := ar_new (c := ca) (d := da) f6.rd g6.rd; obtain ⟨y0, y1, _, _⟩ := box2 I6.x.box; obtain ⟨y2, y3, _, _⟩ := box2 I6.y.box)
    | (go_at_call 11; (with_reducible refine (cB _ I6).mono ?_); rintro e W7 ⟨ob, nb, cb, pb, mb, db, SB, AB, rfl, f7, g7, ⟨rfl, rfl⟩, k7⟩; have kb7 := box_below W7 (.cells #[.slice ob nb cb, .slice pb mb db] 25); have I7 := (I6.below k7).below kb7; have A7 := (A6.below k7).below kb7; have B7 := ar_new (c := cb) (d := db) f7.rd g7.rd; obtain ⟨z0, z1, _, _⟩ := box2 I7.x.box; obtain ⟨z2, z3, _, _⟩ := box2 I7.y.box)
    | (go_at_call 11; (with_reducible refine (cC _ I7).mono ?_); rintro e W8 ⟨oc, nc, cc, pc, mc, dc, SC, AC, rfl, f8, g8, ⟨rfl, rfl⟩, k8⟩; have kb8 := box_below W8 (.cells #[.slice oc nc cc, .slice pc mc dc] 25); have I8 := (I7.below k8).below kb8; have A8 := (A7.below k8).below kb8; have B8 := (B7.below k8).below kb8; have C8 := ar_new (c := cc) (d := dc) f8.rd g8.rd; have sc1 := f8.sl; have sc2 := g8.sl; have na1 : na = 1 := A8.s.len.symm.trans HTK.out; have nb1 : nb = 1 := B8.s.len.symm.trans HTK.out; have ma1 : ma = m := A8.a.len.symm.trans (ecL_len _ _ _); have mb1 : mb = m := B8.a.len.symm.trans (ecL_len _ _ _); subst na1 nb1 ma1 mb1; obtain ⟨u0, u1, _, _⟩ := box2 A8.box; obtain ⟨u2, u3, _, _⟩ := box2 B8.box; obtain ⟨u4, u5, _, _⟩ := box2 C8.box)
    | (go_at_call 8; (with_reducible refine (cMC _ _ _ _ _ _ _ _ C8).mono ?_); rintro e W9 ⟨rfl, k9⟩; have I9 := I8.below k9; have A9 := A8.below k9; have B9 := B8.below k9; have C9 := C8.below k9))
  clear k6 kb6 k7 kb7 k8 kb8 k9 I5 I6 I7 I8 A6 A7 A8 B7 B8 C8 f6 g6 f7 g7 f8 g8 y0 y1 y2 y3 z0 z1 z2 z3 x0 x1 x2 x3 u0 u1 u2 u3 u4 u5 cA cB cC cMC
  generalize W6.heap.size = ga at *
  generalize W7.heap.size = gb at *
  generalize W8.heap.size = gc at *
  have LO : ∀ {V : World}, Below W9.heap.size W9 V → F0 w V so sn sc ao an ac uo un uc bo bn bc sh at' th bt' ∧ Ar V ga oa 1 ca pa mb da (th.take 1) (ecL (tP xs n) ys mb) ∧ Ar V gb ob 1 cb pb mb db (th.take 1) (ecL (tI xs n) ys mb) ∧ Ar V gc oc nc cc pc mc dc (((flt p mb).length : Int) :: th.drop 1) (chA ys (flt p mb) (flt p mb).length) := fun hV => ⟨I9.below hV, A9.lowF hV (Nat.le_refl _), B9.lowF hV (Nat.le_refl _), C9.lowF hV (Nat.le_refl _)⟩
  clear I9 A9 B9 C9
  go_loopw [13, 14] (fun lv iv V => ∃ (k : Nat), k ≤ mb ∧ iv = .int .i64 (k : Nat) ∧ lv = .int .i64 ((flt p k).length : Nat) ∧ Below W9.heap.size W9 V) (fun _ iv _ => mb - (intOf iv).toNat)
  case atStart => exact ⟨0, Nat.zero_le _, rfl, rfl, Below.refl _ _⟩
  case round =>
    obtain ⟨k, hk, rfl, rfl, BV⟩ := hrel
    obtain ⟨LF, LA, LB, LC⟩ := LO BV
    by_cases hlt : k < mb
    · have t3 : decide ((k : Int) < (mb : Int)) = true := by simp; omega
      have wk := wrY (z := (k : Int) + 1) (by omega) (by omega)
      have bk : (k : Int) < (mb : Int) := by omega
      have wn := wrY (z := (n : Int) - 1) (by omega) (by omega)
      obtain ⟨y0, y1, _, _⟩ := box2 LF.y.box
      have hlk := flt_len p k
      clear LA LB LC
      go_wp2_with (first
        | (go_at_call 12; (with_reducible refine (cIY _ LF.y k hlt).mono ?_); rintro e V1 ⟨o1, n1, c1, o2, n2, c2, rfl, f1, f2, j1⟩; have kz := box_below V1 (.cells #[.slice o1 n1 c1, .slice o2 n2 c2] 25); have Z1 := ar_new (c := c1) (d := c2) f1.rd f2.rd; have B1 := (BV.trans (j1.mono BV.size)).trans (kz.mono (Nat.le_trans BV.size j1.size))))
      clear j1 kz f1 f2 LF y0 y1
      generalize V1.heap.size = gz at *
      generalize V1.alloc (.cells #[.slice o1 n1 c1, .slice o2 n2 c2] 25) = V2 at *
      go_loopw [17, 18] (fun av kv V => ∃ (q a : Nat), q ≤ a ∧ a ≤ n ∧ av = .int .i64 (a : Nat) ∧ kv = .int .i64 ((q : Int) - 1) ∧ (∀ t, q ≤ t → t < a → xs t ≠ ys k) ∧ (a < n → xs a = ys k) ∧ Below V2.heap.size V2 V) (fun _ kv _ => (intOf kv + 1).toNat)
      case atStart => exact ⟨n, n, Nat.le_refl _, Nat.le_refl _, rfl, rfl, fun t t1 t2 => by omega, fun h => by omega, Below.refl _ _⟩
      case round =>
        obtain ⟨q, a, hqa, han', rfl, rfl, HN, HY, BQ⟩ := hrel
        by_cases hq : 0 < q
        · obtain ⟨r, hr⟩ : ∃ r : Nat, (r : Int) = (q : Int) - 1 := ⟨q - 1, by omega⟩
          rw [← hr]
          have tr : decide (0 ≤ (r : Int)) = true := by simp
          have wr2 : IntKind.i64.wrap ((r : Int) - 1) = (r : Int) - 1 := wrapIn _ (by omega)
          have B2 := B1.trans (BQ.mono B1.size)
          obtain ⟨LF, _, _, _⟩ := LO B2
          have ZQ := Z1.below BQ
          obtain ⟨x0, x1, _, _⟩ := box2 LF.x.box
          have hrn : r < n := by omega
          have HR : Hid ((r : Int) = (q : Int) - 1) := hr
          clear hr
          by_cases he : xs r = ys k
          · have cSm := fun V (I : Ar V gz o1 n1 c1 o2 n2 c2 (ys k).1 (ys k).2) e1 e2 e3 e4 e5 e6 (r1 : Rd V e1 e2 (xs r).1) (r2 : Rd V e4 e5 (xs r).2) => smA V e1 e4 o1 o2 e2 e3 e5 e6 n1 c1 n2 c2 (xs r) (ys k) r1 r2 I.s I.a
            rw [decide_eq_true he] at cSm
            have HE : Hid (xs r = ys k) := he
            clear he
            go_wp2_with (first
              | (go_at_call 12; (with_reducible refine (cIX _ LF.x r hrn).mono ?_); rintro e V3 ⟨e1, e2, e3, e4, e5, e6, rfl, f3, f4, j3⟩; have kz3 := box_below V3 (.cells #[.slice e1 e2 e3, .slice e4 e5 e6] 25); have X3 := ar_new (c := e3) (d := e6) f3.rd f4.rd; have Z3 := (ZQ.below j3).below kz3; have B3 := (BQ.trans (j3.mono BQ.size)).trans (kz3.mono (Nat.le_trans BQ.size j3.size)); obtain ⟨v0, v1, _, _⟩ := box2 X3.box; obtain ⟨v2, v3, _, _⟩ := box2 Z3.box)
              | (go_at_call 13; (with_reducible refine (cSm _ Z3 _ _ _ _ _ _ X3.s X3.a).mono ?_); rintro e V4 ⟨rfl, j4⟩; have B4 := B3.trans (j4.mono B3.size)))
            go_roundw
            case rel => exact ⟨r, r, Nat.le_refl _, by omega, rfl, rfl, fun t t1 t2 => by omega, fun _ => HE.out, B4⟩
            case measure => have := HR.out; simp [intOf]
          · have cSm := fun V (I : Ar V gz o1 n1 c1 o2 n2 c2 (ys k).1 (ys k).2) e1 e2 e3 e4 e5 e6 (r1 : Rd V e1 e2 (xs r).1) (r2 : Rd V e4 e5 (xs r).2) => smA V e1 e4 o1 o2 e2 e3 e5 e6 n1 c1 n2 c2 (xs r) (ys k) r1 r2 I.s I.a
            rw [decide_eq_false he] at cSm
            have HE : Hid (xs r ≠ ys k) := he
            clear he
            go_wp2_with (first
              | (go_at_call 12; (with_reducible refine (cIX _ LF.x r hrn).mono ?_); rintro e V3 ⟨e1, e2, e3, e4, e5, e6, rfl, f3, f4, j3⟩; have kz3 := box_below V3 (.cells #[.slice e1 e2 e3, .slice e4 e5 e6] 25); have X3 := ar_new (c := e3) (d := e6) f3.rd f4.rd; have Z3 := (ZQ.below j3).below kz3; have B3 := (BQ.trans (j3.mono BQ.size)).trans (kz3.mono (Nat.le_trans BQ.size j3.size)); obtain ⟨v0, v1, _, _⟩ := box2 X3.box; obtain ⟨v2, v3, _, _⟩ := box2 Z3.box)
              | (go_at_call 13; (with_reducible refine (cSm _ Z3 _ _ _ _ _ _ X3.s X3.a).mono ?_); rintro e V4 ⟨rfl, j4⟩; have B4 := B3.trans (j4.mono B3.size)))
            go_roundw
            case rel => exact ⟨r, a, by have := HR.out; omega, han', rfl, rfl, fun t t1 t2 => by
              rcases Nat.lt_or_ge t q with x | x
              · have := HR.out
                obtain rfl : t = r := by omega
                exact HE.out
              · exact HN t x t2, HY, B4⟩
            case measure => have := HR.out; simp [intOf]
        · obtain rfl : q = 0 := by omega
          have tr : decide (0 ≤ ((0 : Nat) : Int) - 1) = false := by decide
          have tr2 : decide ((0 : Int) ≤ -1) = false := by decide
          have fs : fsq xs n (ys k) = a := FsQ.is ⟨han', fun t ht => HN t (by omega) ht, HY⟩
          have B2 := B1.trans (BQ.mono B1.size)
          obtain ⟨LF, LA, LB, LC⟩ := LO B2
          obtain ⟨ra, roa, epa, hra, hca⟩ := LA.a.cells (by omega)
          subst epa
          obtain ⟨rb, rob, epb, hrb, hcb⟩ := LB.a.cells (by omega)
          subst epb
          have ca1 := hca k hlt
          have cb1 := hcb k hlt
          rw [ecL_nth hlt] at ca1 cb1
          rw [show tP xs n (ys k) = (a : Int) by unfold tP; rw [fs]] at ca1
          have hpk := HP.out k
          rw [fs] at hpk
          have hsu := flt_succ p k
          have taa : ((a : Int) != (a : Int)) = false := by simp
          obtain ⟨w0, w1, _, _⟩ := box2 LA.box
          obtain ⟨w2, w3, _, _⟩ := box2 LB.box
          obtain ⟨w4, w5, _, _⟩ := box2 LC.box
          have ZQ := Z1.below BQ
          clear hca hcb HN HY
          by_cases hav : a < n
          · rw [show tI xs n (ys k) = 1 by unfold tI; rw [fs, if_pos hav]] at cb1
            have e1 : decide ((a : Int) < (n : Int)) = true := by simp; omega
            have e2 : ((a : Int) == (n : Int)) = false := by simp; omega
            have HS : Hid ((flt p (k + 1)).length = (flt p k).length) := by show _ = _; rw [hsu, hpk, decide_eq_true hav]; simp
            have e3 : decide (a < n) = true := by simpa using hav
            clear hsu hpk fs
            go_wp2
            go_roundw
            case rel => exact ⟨k + 1, by omega, by go_num, by rw [HS.out], B2⟩
            case measure => simp [intOf]; omega
          · obtain rfl : a = n := by omega
            rw [show tI xs a (ys k) = 0 by unfold tI; rw [fs, if_neg (by omega)]] at cb1
            have e1 : decide ((a : Int) < (a : Int)) = false := by simp
            have hpt : p k = true := by rw [hpk]; simp
            have HS : Hid ((flt p (k + 1)).length = (flt p k).length + 1) := by show _ = _; rw [hsu, hpt]; simp
            obtain ⟨l1, l2⟩ := HFL.out k hpt hlt
            have wl := wrY (z := ((flt p k).length : Int) + 1) (by omega) (by omega)
            have cI := cIC _ _ _ _ _ _ _ _ sc1 sc2 LC _ k l1 l2
            generalize (flt p k).length = lk at *
            clear hsu hpk fs hpt l2
            go_wp2_with (first
              | (go_at_call 12; (with_reducible refine cI.mono ?_); rintro e V3 ⟨e1', e2', e3', e4', e5', e6', rfl, f3, f4, j3⟩; have kz3 := box_below V3 (.cells #[.slice e1' e2' e3', .slice e4' e5' e6'] 25); have X3 := ar_new (c := e3') (d := e6') f3.rd f4.rd; have Z3 := (ZQ.below j3).below kz3; have B3 := (B2.trans (j3.mono B2.size)).trans (kz3.mono (Nat.le_trans B2.size j3.size)); obtain ⟨v0, v1, _, _⟩ := box2 X3.box; obtain ⟨v2, v3, _, _⟩ := box2 Z3.box; have cSm := smA _ e1' e4' o1 o2 e2' e3' e5' e6' n1 c1 n2 c2 (ys k) (ys k) X3.s X3.a Z3.s Z3.a; rw [decide_eq_true rfl] at cSm)
              | (go_at_call 13; (with_reducible refine cSm.mono ?_); rintro e V4 ⟨rfl, j4⟩; have B4 := B3.trans (j4.mono B3.size)))
            go_roundw
            case rel => exact ⟨k + 1, by omega, by go_num, by rw [HS.out]; go_num, B4⟩
            case measure => simp [intOf]; omega
    · obtain rfl : k = mb := by omega
      have t3 : decide ((k : Int) < (k : Int)) = false := by simp
      obtain ⟨w4, w5, _, _⟩ := box2 LC.box
      have cT := cTC _ _ _ _ _ _ _ _ LC
      have hnc : nc = un := LC.s.len.symm.trans HLC.out
      have tll : (((flt p k).length : Int) == ((flt p k).length : Int)) = true := by simp
      have tuu : ((un : Int) == (un : Int)) = true := by simp
      subst hnc
      go_wp2_with (first
        | (go_at_call 10; (with_reducible refine cT.mono ?_); rintro e V5 ⟨rfl, j5⟩; have B5 := BV.trans (j5.mono BV.size); obtain ⟨LF5, _, _, LC5⟩ := LO B5; obtain ⟨s4, s5, _, _⟩ := box2 LC5.box; obtain ⟨s6, s7, _, _⟩ := box2 LF5.y.box))
      go_ret
      exact ⟨rfl, LF5.bel⟩
end Go.Proofs.Ytlncjmeabonpfaa
