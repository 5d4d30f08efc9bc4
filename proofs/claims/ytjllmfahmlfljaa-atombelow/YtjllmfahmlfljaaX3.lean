
/- The statement AtomBelow, walked: where there is nothing to ask. -/

import Derived.Test.YtjllmfahmlfljaaX1

namespace Go.Proofs.Ytjllmfahmlfljaa

open Go.RowKit Go.Deep

set_option linter.unusedVariables false

/-- The array in its box, the list; and the list made an array, in a box of its own. -/
structure Lc (w W : World) (xg : Nat) (xo : Option Addr) (N : Nat) (mo : Option Addr) (ml mc : Nat) (to : Option Addr) (tn tc : Nat) (bo : Option Addr) (bn bc : Nat) (zs sy ay : List Int) : Prop where
  c0 : W.cell? ⟨w.heap.size, 0, none⟩ = some (.slice to tn tc)
  c1 : W.cell? ⟨w.heap.size, 1, none⟩ = some (.slice bo bn bc)
  x0 : W.cell? ⟨xg, 0, none⟩ = some (.slice xo 1 1)
  x1 : W.cell? ⟨xg, 1, none⟩ = some (.slice mo N mc)
  m : Rd W mo ml zs
  t : Rd W to tn sy
  b : Rd W bo bn ay
  xs : Rd W xo 1 [(N : Int)]
  xa : Rd W mo N (zs.take N)
  bel : Below w.heap.size w W
theorem Lc.below {w W W' : World} {xg : Nat} {xo : Option Addr} {N : Nat} {mo : Option Addr} {ml mc : Nat} {to : Option Addr} {tn tc : Nat} {bo : Option Addr} {bn bc : Nat} {zs sy ay : List Int} (h : Lc w W xg xo N mo ml mc to tn tc bo bn bc zs sy ay) (k : Below W.heap.size W W') : Lc w W' xg xo N mo ml mc to tn tc bo bn bc zs sy ay := by
  have l0 := World.block_lt_of_cell? W _ h.c0
  have l1 := World.block_lt_of_cell? W _ h.x0
  exact ⟨(k.cell (p := ⟨w.heap.size, 0, none⟩) l0).trans h.c0, (k.cell (p := ⟨w.heap.size, 1, none⟩) l0).trans h.c1, (k.cell (p := ⟨xg, 0, none⟩) l1).trans h.x0, (k.cell (p := ⟨xg, 1, none⟩) l1).trans h.x1,
    h.m.below k (Nat.le_refl _), h.t.below k (Nat.le_refl _), h.b.below k (Nat.le_refl _), h.xs.below k (Nat.le_refl _), h.xa.below k (Nat.le_refl _), h.bel.trans (k.mono h.bel.size)⟩

/-- What is wanted, item by item. -/
structure Wb (Ww V : World) (to : Option Addr) (tn tc z k : Nat) (F G : Nat → Int) : Prop where
  bel : Below Ww.heap.size Ww V
  row : ∃ qo m qc ys, V.heap[Ww.heap.size]? = some (.cells #[.slice to tn tc, .slice qo m qc] 25 (0, 0)) ∧ Ft 2 V (Ww.heap.size + 1) qo m qc ys ∧ m ≤ k * z ∧ (gK (eI G z) k = 0 → ys = (List.range (k * z)).map F)
  err : ∀ j, j + 1 < k → eI G z j = 0
theorem Wb.start (Ww : World) (to : Option Addr) (tn tc z : Nat) (F G : Nat → Int) : Wb Ww (Ww.alloc (.cells #[.slice to tn tc, .slice none 0 0] 25)) to tn tc z 0 F G :=
  ⟨box_below _ _, ⟨none, 0, 0, [], allocNew _ _, Ft.nil _ _ _, Nat.zero_le _, fun _ => by rw [Nat.zero_mul]; rfl⟩, fun j hj => by omega⟩
theorem Wb.below {Ww V V' : World} {to : Option Addr} {tn tc z k : Nat} {F G : Nat → Int} (h : Wb Ww V to tn tc z k F G) (b : Below V.heap.size V V') : Wb Ww V' to tn tc z k F G := by
  obtain ⟨qo, m, qc, ys, h1, h2, h3, h4⟩ := h.row
  exact ⟨h.bel.trans (b.mono h.bel.size), ⟨qo, m, qc, ys, (b.block _ (Array.getElem?_eq_some_iff.1 h1).1).trans h1, h2.below b (Nat.le_refl _), h3, h4⟩, h.err⟩
theorem onOk_len (e : Int) (l : List Int) : (onOk e l).length ≤ l.length := by
  unfold onOk
  split
  · exact Nat.le_refl _
  · simp
theorem Wb.step {Ww V : World} {to qo co : Option Addr} {tn tc z k m qc n c : Nat} {F G : Nat → Int} {ys : List Int} (bel : Below Ww.heap.size Ww V) (hb : V.heap[Ww.heap.size]? = some (.cells #[.slice to tn tc, .slice qo m qc] 25 (0, 0))) (hf : Ft 2 V (Ww.heap.size + 1) co (m + n) c (ys ++ onOk (eI G z k) ((List.range z).map fun j => F (k * z + j)))) (hm : m ≤ k * z) (hn : n ≤ z) (hy : ys = (List.range (k * z)).map F) (he : ∀ j, j + 1 < k → eI G z j = 0) (hg : gK (eI G z) k = 0) :
    Wb Ww (V.setCell ⟨Ww.heap.size, 1, none⟩ (.slice co (m + n) c)) to tn tc z (k + 1) F G := by
  have h := heap_setCell_same V Ww.heap.size 1 _ 25 (.slice co (m + n) c) hb
  refine ⟨bel.setCell (p := ⟨Ww.heap.size, 1, none⟩) (Nat.le_refl _) _, ⟨co, m + n, c, _, h, hf.keep1 (set1 _ _ _ _) (fun b off e => by have := (hf.at b off e).1; intro e'; simp only [Option.some.injEq] at e'; omega), by rw [Nat.add_mul, Nat.one_mul]; omega, fun e => ?_⟩, fun j hj => ?_⟩
  · rw [gK_succ] at e
    rw [onOk_ok e, hy, range_more]
  · by_cases e : j + 1 = k
    · unfold gK at hg
      rw [if_neg (by omega)] at hg
      rw [show j = k - 1 by omega]; exact hg
    · exact he j (by omega)

/-- The reckoning of items. -/
theorem below_facts {sy ay : List Int} (m1 : mayA sy ay = 0) (h0 : 0 < sy.length) : ∃ N z : Nat, nth sy 0 = N ∧ tal sy = N ∧ (pr (sy.drop 1)).toNat = z ∧ sy.take 1 = [(N : Int)] ∧ mayF [(N : Int)] = 0 ∧ N ≤ 4096 ∧ z ≤ 4096 ∧ N * z = ay.length ∧ (pr sy).toNat = N * z ∧ mayF (sy.drop 1) = 0 ∧ pr (sy.drop 1) = z ∧ (0 < N → itmZ sy ay = z) ∧ ay.length ≤ 4096 := by
  obtain ⟨a1, a2, a3, a4, a5, a6, a7⟩ := isz_all m1
  obtain ⟨b1, b2⟩ := mayA_zero m1
  have ht : tal sy = nth sy 0 := by unfold tal; rw [if_neg (by omega)]
  obtain ⟨N, hN⟩ : ∃ N : Nat, tal sy = N := ⟨(tal sy).toNat, by omega⟩
  obtain ⟨z, hz⟩ : ∃ z : Nat, pr (sy.drop 1) = z := ⟨(pr (sy.drop 1)).toNat, by omega⟩
  have h1 : sy.take 1 = [(N : Int)] := by
    cases sy with
    | nil => simp at h0
    | cons x r => simp only [nth, List.getD_cons_zero] at ht; rw [← hN, ht]; rfl
  have hm := mayF_take b1 1
  rw [h1] at hm
  have e : N * z = ay.length := by rw [hN, hz] at a1; exact_mod_cast a1
  refine ⟨N, z, by rw [← ht, hN], hN, by rw [hz]; simp, h1, hm, by omega, by omega, e, by rw [← b2]; omega, a4, hz, fun h => ?_, a7⟩
  unfold itmZ
  rw [hN, ← e, Int.toNat_natCast, Nat.mul_comm]
  exact Nat.mul_div_cancel _ h
theorem may_list {N : Nat} {zs : List Int} (h : mayF [(N : Int)] = 0) (hl : N ≤ zs.length) : mayA [(N : Int)] (zs.take N) = 0 :=
  mayA_ok h (by rw [List.length_take, Nat.min_eq_left hl]; simp [pr])
theorem may_item {sy ay : List Int} {N z k : Nat} (h : mayF (sy.drop 1) = 0) (hz : pr (sy.drop 1) = z) (e : N * z = ay.length) (hk : k < N) : mayA (sy.drop 1) ((ay.drop (k * z)).take z) = 0 :=
  mayA_ok h (by rw [part_len e hk, hz])
theorem may_one (v : Int) : mayA [] [v] = 0 := by unfold mayA; rw [if_neg (by decide), if_neg (by simp [pr])]
theorem nth_item {ay : List Int} {k z j : Nat} (h : j < z) : nth ((ay.drop (k * z)).take z) j = nth ay (k * z + j) := by rw [nth_take h, nth_drop]
theorem div_item {k z j : Nat} (h : j < z) : (k * z + j) / z = k := by
  rw [Nat.mul_comm, Nat.mul_add_div (by omega), Nat.div_eq_of_lt h, Nat.add_zero]
theorem Rd.front {w : World} {ao : Option Addr} {n : Nat} {zs : List Int} (h : Rd w ao n zs) (m : Nat) (hm : m ≤ n) : Rd w ao m (zs.take m) := by
  have hr := h.room
  refine ⟨by rw [List.length_take, h.len]; omega, by omega, fun k hk => by rw [nth_take hk]; exact h.num k (by omega), fun h0 => ?_⟩
  obtain ⟨b, off, e, hb, hc⟩ := h.cells (by omega)
  exact ⟨b, off, e, hb, fun k hk => by rw [nth_take hk]; exact hc k (by omega)⟩
end Go.Proofs.Ytjllmfahmlfljaa


namespace Go.Proofs.Ytjllmfahmlfljaa

open Go.RowKit Go.Deep

set_option linter.unusedVariables false

set_option maxHeartbeats 2000000 in
set_option maxRecDepth 20000 in
theorem bl_has (op : Int) (mo to bo : Option Addr) (ml mc tn tc bn bc : Nat) (zs sy ay : List Int) (w : World) (h1 : Rd w mo ml zs) (h3 : Rd w to tn sy) (h4 : Rd w bo bn ay) (hm : Sl mo ml mc) (ht : Sl to tn tc) (hb : Sl bo bn bc) (c : hasB op 2 = false) :
    Calls Try.prog 8 #[.int .i64 op, .slice mo ml mc, .agg #[.slice to tn tc, .slice bo bn bc]] w fun e w' => e = .returned (.bool true) ∧ Below w.heap.size w w' := by
  have I0 := bx_new (sc := tc) (ac := bc) h3 h4
  have K0 := box_below w (.cells #[.slice to tn tc, .slice bo bn bc] 25)
  have hh := fun W => has_any op 2 W
  have hm2 := fun W (x : Rd W to tn sy) (y : Rd W bo bn ay) => mayA_any to bo tn tc bn bc sy ay W x y
  rw [c] at hh
  go_enter Try.func8, Try.ntmps8
  go_wp2_with (first | (go_at_call 29; refine (begun5_any _).mono ?_; rintro e W1 ⟨rfl, k1⟩; have I1 := I0.below k1; have K1 := btw K0 k1 K0.size) | (go_at_call 32; refine (hh _).mono ?_; rintro e W2 ⟨rfl, k2⟩; have I2 := I1.below k2; have K2 := btw K1 k2 K1.size; have I2' := I2; obtain ⟨p0, p1, _, _⟩ := I2'))
  go_ret
  exact ⟨rfl, K2⟩
set_option maxHeartbeats 2000000 in
set_option maxRecDepth 20000 in
theorem bl_may (op : Int) (mo to bo : Option Addr) (ml mc tn tc bn bc : Nat) (zs sy ay : List Int) (w : World) (h1 : Rd w mo ml zs) (h3 : Rd w to tn sy) (h4 : Rd w bo bn ay) (hm : Sl mo ml mc) (ht : Sl to tn tc) (hb : Sl bo bn bc) (c : hasB op 2 = true) (m : mayA sy ay ≠ 0) :
    Calls Try.prog 8 #[.int .i64 op, .slice mo ml mc, .agg #[.slice to tn tc, .slice bo bn bc]] w fun e w' => e = .returned (.bool true) ∧ Below w.heap.size w w' := by
  have I0 := bx_new (sc := tc) (ac := bc) h3 h4
  have K0 := box_below w (.cells #[.slice to tn tc, .slice bo bn bc] 25)
  have hh := fun W => has_any op 2 W
  have hm2 := fun W (x : Rd W to tn sy) (y : Rd W bo bn ay) => mayA_any to bo tn tc bn bc sy ay W x y
  rw [c] at hh
  have m' : (mayA sy ay != 0) = true := by simpa using m
  clear m
  go_enter Try.func8, Try.ntmps8
  go_wp2_with (first | (go_at_call 29; refine (begun5_any _).mono ?_; rintro e W1 ⟨rfl, k1⟩; have I1 := I0.below k1; have K1 := btw K0 k1 K0.size) | (go_at_call 32; refine (hh _).mono ?_; rintro e W2 ⟨rfl, k2⟩; have I2 := I1.below k2; have K2 := btw K1 k2 K1.size; have I2' := I2; obtain ⟨p0, p1, _, _⟩ := I2') | (go_at_call 30; (with_reducible refine (hm2 _ I2.s I2.a).mono ?_); rintro e W3 ⟨rfl, k3⟩; have I3 := I2.below k3; have K3 := btw K2 k3 K2.size; have I3' := I3; obtain ⟨q0, q1, _, _⟩ := I3'))
  go_ret
  exact ⟨rfl, K3⟩
set_option maxHeartbeats 2000000 in
set_option maxRecDepth 20000 in
theorem bl_scalar (op : Int) (mo to bo : Option Addr) (ml mc tn tc bn bc : Nat) (zs sy ay : List Int) (w : World) (h1 : Rd w mo ml zs) (h3 : Rd w to tn sy) (h4 : Rd w bo bn ay) (hm : Sl mo ml mc) (ht : Sl to tn tc) (hb : Sl bo bn bc) (c : hasB op 2 = true) (m : mayA sy ay = 0) (hz : tn = 0) :
    Calls Try.prog 8 #[.int .i64 op, .slice mo ml mc, .agg #[.slice to tn tc, .slice bo bn bc]] w fun e w' => e = .returned (.bool true) ∧ Below w.heap.size w w' := by
  have I0 := bx_new (sc := tc) (ac := bc) h3 h4
  have K0 := box_below w (.cells #[.slice to tn tc, .slice bo bn bc] 25)
  have hh := fun W => has_any op 2 W
  have hm2 := fun W (x : Rd W to tn sy) (y : Rd W bo bn ay) => mayA_any to bo tn tc bn bc sy ay W x y
  subst hz
  rw [c] at hh
  rw [m] at hm2
  clear m
  go_enter Try.func8, Try.ntmps8
  go_wp2_with (first | (go_at_call 29; refine (begun5_any _).mono ?_; rintro e W1 ⟨rfl, k1⟩; have I1 := I0.below k1; have K1 := btw K0 k1 K0.size) | (go_at_call 32; refine (hh _).mono ?_; rintro e W2 ⟨rfl, k2⟩; have I2 := I1.below k2; have K2 := btw K1 k2 K1.size; have I2' := I2; obtain ⟨p0, p1, _, _⟩ := I2') | (go_at_call 30; (with_reducible refine (hm2 _ I2.s I2.a).mono ?_); rintro e W3 ⟨rfl, k3⟩; have I3 := I2.below k3; have K3 := btw K2 k3 K2.size; have I3' := I3; obtain ⟨q0, q1, _, _⟩ := I3'))
  go_ret
  exact ⟨rfl, K3⟩
set_option maxHeartbeats 2000000 in
set_option maxRecDepth 20000 in
theorem bl_few (op : Int) (mo to bo : Option Addr) (ml mc tn tc bn bc : Nat) (zs sy ay : List Int) (w : World) (h1 : Rd w mo ml zs) (h3 : Rd w to tn sy) (h4 : Rd w bo bn ay) (hm : Sl mo ml mc) (ht : Sl to tn tc) (hb : Sl bo bn bc) (c : hasB op 2 = true) (m : mayA sy ay = 0) (hz : 0 < tn) (N : Nat) (hN0 : nth sy 0 = N) (hf : ml < N) :
    Calls Try.prog 8 #[.int .i64 op, .slice mo ml mc, .agg #[.slice to tn tc, .slice bo bn bc]] w fun e w' => e = .returned (.bool true) ∧ Below w.heap.size w w' := by
  have I0 := bx_new (sc := tc) (ac := bc) h3 h4
  have K0 := box_below w (.cells #[.slice to tn tc, .slice bo bn bc] 25)
  have hh := fun W => has_any op 2 W
  have hm2 := fun W (x : Rd W to tn sy) (y : Rd W bo bn ay) => mayA_any to bo tn tc bn bc sy ay W x y
  obtain ⟨tb, toff, rfl, htb, htc⟩ := h3.cells hz
  have ct := htc 0 hz
  rw [Nat.add_zero, hN0] at ct
  rw [c] at hh
  rw [m] at hm2
  have z1 : ((tn : Int) == 0) = false := by simp; omega
  have z2 : ¬ tn = 0 := by omega
  have z3 : decide ((ml : Int) < (N : Int)) = true := by simp; omega
  have b0 : (0 : Int) < (tn : Int) := by omega
  clear m htc
  go_enter Try.func8, Try.ntmps8
  go_wp2_with (first | (go_at_call 29; refine (begun5_any _).mono ?_; rintro e W1 ⟨rfl, k1⟩; have I1 := I0.below k1; have K1 := btw K0 k1 K0.size) | (go_at_call 32; refine (hh _).mono ?_; rintro e W2 ⟨rfl, k2⟩; have I2 := I1.below k2; have K2 := btw K1 k2 K1.size; have I2' := I2; obtain ⟨p0, p1, _, _⟩ := I2') | (go_at_call 30; (with_reducible refine (hm2 _ I2.s I2.a).mono ?_); rintro e W3 ⟨rfl, k3⟩; have I3 := I2.below k3; have K3 := btw K2 k3 K2.size; have I3' := I3; obtain ⟨q0, q1, _, _⟩ := I3'; have ct3 := (K3.cell (p := ⟨tb, toff, none⟩) htb).trans ct))
  go_ret
  exact ⟨rfl, K3⟩
end Go.Proofs.Ytjllmfahmlfljaa
