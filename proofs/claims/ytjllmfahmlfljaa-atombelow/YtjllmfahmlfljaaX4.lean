
/- The statement AtomBelow, walked. -/

import Derived.Test.YtjllmfahmlfljaaX3

namespace Go.Proofs.Ytjllmfahmlfljaa

open Go.RowKit Go.Deep

set_option linter.unusedVariables false

set_option maxHeartbeats 40000000 in
set_option maxRecDepth 20000 in
theorem bl_go (op : Int) (mo to bo : Option Addr) (ml mc tn tc bn bc : Nat) (zs sy ay : List Int) (w : World) (h1 : Rd w mo ml zs) (h3 : Rd w to tn sy) (h4 : Rd w bo bn ay) (hm : Sl mo ml mc) (ht : Sl to tn tc) (hb : Sl bo bn bc) (c : hasB op 2 = true) (m : mayA sy ay = 0) (hz : 0 < tn) (N z : Nat) (hN0 : nth sy 0 = N) (hf : N ≤ ml) (hT : tal sy = N) (hpz : (pr (sy.drop 1)).toNat = z) (hT1 : sy.take 1 = [(N : Int)]) (hmN : mayF [(N : Int)] = 0) (N4 : N ≤ 4096) (z4 : z ≤ 4096) (hNz : N * z = ay.length) (hpr : (pr sy).toNat = N * z) (hmd : mayF (sy.drop 1) = 0) (hpd : pr (sy.drop 1) = z) (hiz : 0 < N → itmZ sy ay = z) (al4 : ay.length ≤ 4096) :
    Calls Try.prog 8 #[.int .i64 op, .slice mo ml mc, .agg #[.slice to tn tc, .slice bo bn bc]] w fun e w' => e = .returned (.bool true) ∧ Below w.heap.size w w' := by
  have I0 := bx_new (sc := tc) (ac := bc) h3 h4
  have K0 := box_below w (.cells #[.slice to tn tc, .slice bo bn bc] 25)
  have hh := fun W => has_any op 2 W
  have hm2 := fun W (x : Rd W to tn sy) (y : Rd W bo bn ay) => mayA_any to bo tn tc bn bc sy ay W x y
  obtain ⟨tb, toff, rfl, htb, htc⟩ := h3.cells hz
  have ct := htc 0 hz
  rw [Nat.add_zero, hN0] at ct
  rw [c] at hh
  rw [m] at hm2
  have hl : lck (Nm.dE op 0 0) = false := by
    unfold hasB at c
    rw [if_neg (by decide), if_pos rfl] at c
    simpa using c
  have z1 : ((tn : Int) == 0) = false := by simp; omega
  have z2 : ¬ tn = 0 := by omega
  have z3 : decide ((ml : Int) < (N : Int)) = false := by simp; omega
  have z3n : decide (ml < N) = false := by simp; omega
  have b0 : (0 : Int) < (tn : Int) := by omega
  have E3 : Hid (sy.length = tn) := h3.len
  have E4 : Hid (ay.length = bn) := h4.len
  have E1 : Hid (zs.length = ml) := h1.len
  have NZ : Hid (∀ k, k < ml → -9223372036854775808 ≤ nth zs k ∧ nth zs k ≤ 9223372036854775807) := h1.num
  have hle := hm.le
  have hmx := hm.max
  have bN0 : (0 : Int) ≤ (N : Int) := by omega
  have bN1 : (N : Int) ≤ (mc : Int) := by omega
  have x1 := h1.room
  have HNZ : Hid (N * z = bn) := by show _ = _; rw [← E4.out]; exact hNz
  have bn4 : bn ≤ 4096 := by rw [← E4.out]; exact al4
  have hlt1 : 1 ≤ sy.length := by rw [E3.out]; exact hz
  obtain ⟨F0, HF0⟩ : ∃ F : Nat → Int, F = fun i => Nm.dN op (nth zs (i / z)) (nth ay i) := ⟨_, rfl⟩
  obtain ⟨G0, HG0⟩ : ∃ G : Nat → Int, G = fun i => Nm.dE op (nth zs (i / z)) (nth ay i) := ⟨_, rfl⟩
  obtain ⟨F1, HF1⟩ : ∃ F : Nat → Int, F = fun i => Nm.dN op (nth ay i) (nth zs (i / z)) := ⟨_, rfl⟩
  obtain ⟨G1, HG1⟩ : ∃ G : Nat → Int, G = fun i => Nm.dE op (nth ay i) (nth zs (i / z)) := ⟨_, rfl⟩
  have hmw := may_list hmN (show N ≤ zs.length by rw [E1.out]; exact hf)
  have dz : ∀ i, i < N * z → i / z < N := fun i hi => by
    have : 0 < z := Nat.pos_of_ne_zero (fun e => by rw [e, Nat.mul_zero] at hi; omega)
    exact (Nat.div_lt_iff_lt_mul this).2 hi
  -- the whole
  have hw0 : ∀ W so sc ao ac, Rd W so 1 [(N : Int)] → Sl so 1 sc → Rd W ao N (zs.take N) → Rd W (some ⟨tb, toff, none⟩) tn sy → Rd W bo bn ay → Calls Try.prog 35 #[.int .i64 op, .agg #[.slice so 1 sc, .slice ao N ac], .agg #[.slice (some ⟨tb, toff, none⟩) tn tc, .slice bo bn bc]] W fun e w' => ∃ o1 n1 c1 o2 n2 c2, e = .returned (.tuple #[.agg #[.slice o1 n1 c1, .slice o2 n2 c2], .int .i64 (fe ((List.range N).map (eI G0 z)))]) ∧ Ft 3 w' W.heap.size o1 n1 c1 (onOk (fe ((List.range N).map (eI G0 z))) sy) ∧ Ft 2 w' W.heap.size o2 n2 c2 (onOk (fe ((List.range N).map (eI G0 z))) ((List.range (N * z)).map F0)) ∧ Below W.heap.size W w' := by
    intro W so sc ao ac r1 s1 r2 r3 r4
    rw [← fe_items]
    exact dyad_pre op so ao _ bo 1 sc N ac tn tc bn bc [(N : Int)] sy (zs.take N) ay 1 (N * z) F0 G0 W r1 r2 r3 r4 s1 ht hl hT1 hlt1 hmw m hpr (fun i hi => by rw [hpz, nth_take (dz i hi), HF0]) (fun i hi => by rw [hpz, nth_take (dz i hi), HG0])
  have hw1 : ∀ W so sc ao ac, Rd W so 1 [(N : Int)] → Sl so 1 sc → Rd W ao N (zs.take N) → Rd W (some ⟨tb, toff, none⟩) tn sy → Rd W bo bn ay → Calls Try.prog 35 #[.int .i64 op, .agg #[.slice (some ⟨tb, toff, none⟩) tn tc, .slice bo bn bc], .agg #[.slice so 1 sc, .slice ao N ac]] W fun e w' => ∃ o1 n1 c1 o2 n2 c2, e = .returned (.tuple #[.agg #[.slice o1 n1 c1, .slice o2 n2 c2], .int .i64 (fe ((List.range N).map (eI G1 z)))]) ∧ Ft 3 w' W.heap.size o1 n1 c1 (onOk (fe ((List.range N).map (eI G1 z))) sy) ∧ Ft 2 w' W.heap.size o2 n2 c2 (onOk (fe ((List.range N).map (eI G1 z))) ((List.range (N * z)).map F1)) ∧ Below W.heap.size W w' := by
    intro W so sc ao ac r1 s1 r2 r3 r4
    rw [← fe_items]
    exact dyad_post op so ao _ bo 1 sc N ac tn tc bn bc [(N : Int)] sy (zs.take N) ay 1 (N * z) F1 G1 W r1 r2 r3 r4 s1 ht hl hT1 hlt1 hmw m hpr (fun i hi => by rw [hpz, nth_take (dz i hi), HF1]) (fun i hi => by rw [hpz, nth_take (dz i hi), HG1])
  -- an item
  have hi0 : ∀ k, k < N → ∀ W o1 c1 o2 c2 o3 c3, Rd W o3 1 [nth zs k] → Rd W o1 (tn - 1) (sy.drop 1) → Sl o1 (tn - 1) c1 → Rd W o2 z ((ay.drop (k * z)).take z) → Calls Try.prog 35 #[.int .i64 op, .agg #[.slice none 0 0, .slice o3 1 c3], .agg #[.slice o1 (tn - 1) c1, .slice o2 z c2]] W fun e w' => ∃ o4 n4 c4 o5 n5 c5, e = .returned (.tuple #[.agg #[.slice o4 n4 c4, .slice o5 n5 c5], .int .i64 (eI G0 z k)]) ∧ Ft 3 w' W.heap.size o4 n4 c4 (onOk (eI G0 z k) (sy.drop 1)) ∧ Ft 2 w' W.heap.size o5 n5 c5 (onOk (eI G0 z k) ((List.range z).map fun j => F0 (k * z + j))) ∧ Below W.heap.size W w' := by
    intro k hk W o1 c1 o2 c2 o3 c3 r3 r1 s1 r2
    exact dyad_pre op none o3 o1 o2 0 0 1 c3 (tn - 1) c1 z c2 [] (sy.drop 1) [nth zs k] ((ay.drop (k * z)).take z) 0 z (fun j => F0 (k * z + j)) (fun j => G0 (k * z + j)) W (Rd.nil W) r3 r1 r2 ⟨fun _ => ⟨rfl, rfl⟩, Nat.le_refl _, by omega⟩ s1 hl rfl (Nat.zero_le _) (may_one _) (may_item hmd hpd hNz hk) hpz
      (fun j hj => by rw [List.drop_zero, hpz, Nat.div_eq_of_lt hj, nth_item hj, HF0]; show _ = Nm.dN op (nth zs ((k * z + j) / z)) _; rw [div_item hj]; rfl)
      (fun j hj => by rw [List.drop_zero, hpz, Nat.div_eq_of_lt hj, nth_item hj, HG0]; show _ = Nm.dE op (nth zs ((k * z + j) / z)) _; rw [div_item hj]; rfl)
  have hi1 : ∀ k, k < N → ∀ W o1 c1 o2 c2 o3 c3, Rd W o3 1 [nth zs k] → Rd W o1 (tn - 1) (sy.drop 1) → Sl o1 (tn - 1) c1 → Rd W o2 z ((ay.drop (k * z)).take z) → Calls Try.prog 35 #[.int .i64 op, .agg #[.slice o1 (tn - 1) c1, .slice o2 z c2], .agg #[.slice none 0 0, .slice o3 1 c3]] W fun e w' => ∃ o4 n4 c4 o5 n5 c5, e = .returned (.tuple #[.agg #[.slice o4 n4 c4, .slice o5 n5 c5], .int .i64 (eI G1 z k)]) ∧ Ft 3 w' W.heap.size o4 n4 c4 (onOk (eI G1 z k) (sy.drop 1)) ∧ Ft 2 w' W.heap.size o5 n5 c5 (onOk (eI G1 z k) ((List.range z).map fun j => F1 (k * z + j))) ∧ Below W.heap.size W w' := by
    intro k hk W o1 c1 o2 c2 o3 c3 r3 r1 s1 r2
    exact dyad_post op none o3 o1 o2 0 0 1 c3 (tn - 1) c1 z c2 [] (sy.drop 1) [nth zs k] ((ay.drop (k * z)).take z) 0 z (fun j => F1 (k * z + j)) (fun j => G1 (k * z + j)) W (Rd.nil W) r3 r1 r2 ⟨fun _ => ⟨rfl, rfl⟩, Nat.le_refl _, by omega⟩ s1 hl rfl (Nat.zero_le _) (may_one _) (may_item hmd hpd hNz hk) hpz
      (fun j hj => by rw [List.drop_zero, hpz, Nat.div_eq_of_lt hj, nth_item hj, HF1]; show _ = Nm.dN op _ (nth zs ((k * z + j) / z)); rw [div_item hj]; rfl)
      (fun j hj => by rw [List.drop_zero, hpz, Nat.div_eq_of_lt hj, nth_item hj, HG1]; show _ = Nm.dE op _ (nth zs ((k * z + j) / z)); rw [div_item hj]; rfl)
  have hit : ∀ k, k < N → ∀ W, Rd W (some ⟨tb, toff, none⟩) tn sy → Rd W bo bn ay → Calls Try.prog 37 #[.agg #[.slice (some ⟨tb, toff, none⟩) tn tc, .slice bo bn bc], .int .i64 (k : Nat)] W fun e w' => ∃ o1 c1 o2 c2, e = .returned (.tuple #[.agg #[.slice o1 (tn - 1) c1, .slice o2 z c2], .int .i64 0]) ∧ Rd w' o1 (tn - 1) (sy.drop 1) ∧ Sl o1 (tn - 1) c1 ∧ Rd w' o2 z ((ay.drop (k * z)).take z) ∧ Sl o2 z c2 ∧ Below W.heap.size W w' :=
    fun k hk W r3 r4 => item_at2 _ bo tn tc bn bc sy ay W r3 ht r4 hb m hT (hiz (by omega)) k hk
  clear m htc c hN0 hT hpz hT1 hmN hNz hpr hmd hpd hiz al4 HF0 HG0 HF1 HG1 dz hmw hl hlt1
  go_enter Try.func8, Try.ntmps8
  go_wp2_with (first | (go_at_call 29; refine (begun5_any _).mono ?_; rintro e W1 ⟨rfl, k1⟩; have I1 := I0.below k1; have K1 := btw K0 k1 K0.size) | (go_at_call 32; refine (hh _).mono ?_; rintro e W2 ⟨rfl, k2⟩; have I2 := I1.below k2; have K2 := btw K1 k2 K1.size; have I2' := I2; obtain ⟨p0, p1, _, _⟩ := I2') | (go_at_call 30; (with_reducible refine (hm2 _ I2.s I2.a).mono ?_); rintro e W3 ⟨rfl, k3⟩; have I3 := I2.below k3; have K3 := btw K2 k3 K2.size; have I3' := I3; obtain ⟨q0, q1, _, _⟩ := I3'; have ct3 := (K3.cell (p := ⟨tb, toff, none⟩) htb).trans ct))
  have kA := box_below W3 (.cells #[.int .i64 (N : Int)] 3)
  have kB := btw kA (box_below _ (.cells #[.slice (some ⟨W3.heap.size, 0, none⟩) 1 1, .slice mo N mc] 25)) kA.size
  have fN := ft_new 3 W3 [(N : Int)] (by simp) (num1 (by omega) (by omega))
  obtain ⟨v0, v1, _, _⟩ := box2 (allocNew (W3.alloc (.cells #[.int .i64 (N : Int)] 3)) (.cells #[.slice (some ⟨W3.heap.size, 0, none⟩) 1 1, .slice mo N mc] 25))
  rw [World.size_alloc] at v0 v1
  have lw : w.heap.size < W3.heap.size := World.block_lt_of_cell? W3 _ I3.c0
  have J0 : Lc w ((W3.alloc (.cells #[.int .i64 (N : Int)] 3)).alloc (.cells #[.slice (some ⟨W3.heap.size, 0, none⟩) 1 1, .slice mo N mc] 25)) (W3.heap.size + 1) (some ⟨W3.heap.size, 0, none⟩) N mo ml mc (some ⟨tb, toff, none⟩) tn tc bo bn bc zs sy ay :=
    ⟨(kB.cell (p := ⟨w.heap.size, 0, none⟩) lw).trans I3.c0, (kB.cell (p := ⟨w.heap.size, 1, none⟩) lw).trans I3.c1, v0, v1, (h1.below K3 (Nat.le_refl _)).below kB (Nat.le_refl _), I3.s.below kB (Nat.le_refl _), I3.a.below kB (Nat.le_refl _), fN.rd.below (box_below _ (.cells #[.slice (some ⟨W3.heap.size, 0, none⟩) 1 1, .slice mo N mc] 25)) (Nat.le_refl _), ((h1.front N hf).below K3 (Nat.le_refl _)).below kB (Nat.le_refl _), btw K3 kB K3.size⟩
  have slx : Sl (some ⟨W3.heap.size, 0, none⟩) 1 1 := fN.sl
  obtain ⟨W5, hW5⟩ : ∃ W5, (W3.alloc (.cells #[.int .i64 (N : Int)] 3)).alloc (.cells #[.slice (some ⟨W3.heap.size, 0, none⟩) 1 1, .slice mo N mc] 25) = W5 := ⟨_, rfl⟩
  obtain ⟨xg, hxg⟩ : ∃ xg, W3.heap.size + 1 = xg := ⟨_, rfl⟩
  obtain ⟨xo, hxo⟩ : ∃ xo : Option Addr, some ⟨W3.heap.size, 0, none⟩ = xo := ⟨_, rfl⟩
  rw [hW5, hxg] at J0 ⊢
  rw [hxo] at J0 slx
  clear hh hm2 I0 I1 I2 I3 K0 K1 K2 K3 k1 k2 k3 kA kB fN v0 v1 p0 p1 q0 q1 ct ct3 h1 h3 h4 hW5 hxo lw htb
  go_loopw [9] (fun i V => ∃ s : Nat, s ≤ 2 ∧ i = .int .i64 (s : Nat) ∧ Lc w V xg xo N mo ml mc (some ⟨tb, toff, none⟩) tn tc bo bn bc zs sy ay) (fun i _ => 2 - (intOf i).toNat)
  case atStart => exact ⟨0, by omega, rfl, J0⟩
  case round =>
    obtain ⟨s, hs2, rfl, J⟩ := hrel
    clear J0
    generalize wr = Wo at *
    have J' := J
    obtain ⟨u0, u1, u2, u3, _, _, _, _, _, _⟩ := J'
    rcases (show s = 0 ∨ s = 1 ∨ s = 2 by omega) with rfl | rfl | rfl
    · rw [show ((0 : Nat) : Int) = 0 from rfl]
      by_cases hR : fe ((List.range N).map (eI G0 z)) = 0
      · have HR : Hid (fe ((List.range N).map (eI G0 z)) = 0) := hR
        simp only [hR, onOk_ok rfl] at hw0
        clear hR
        have St := Wb.start Wo (some ⟨tb, toff, none⟩) tn tc z F0 G0
        go_wp2
        go_loopw [11, 12] (fun f i V => ∃ k : Nat, k ≤ N ∧ i = .int .i64 (k : Nat) ∧ f = .int .i64 (gK (eI G0 z) k) ∧ Wb Wo V (some ⟨tb, toff, none⟩) tn tc z k F0 G0) (fun _ i _ => N - (intOf i).toNat)
        case atStart => exact ⟨0, Nat.zero_le _, rfl, rfl, St⟩
        case round =>
          obtain ⟨k, hk, rfl, rfl, L0⟩ := hrel
          clear St u0 u1 u2 u3
          have J1 := J.below L0.bel
          have J1' := J1
          obtain ⟨u0, u1, u2, u3, _, _, _, _, _, _⟩ := J1'
          have z0 := gK_all HR.out hk
          by_cases hlt : k < N
          · have hkz : k * z ≤ bn := by rw [← HNZ.out]; exact Nat.mul_le_mul_right _ hk
            have bd := NZ.out k (by omega)
            have t1 : decide ((k : Int) < (N : Int)) = true := by simp; omega
            have b3 : (k : Int) < (ml : Int) := by omega
            have b4 : (k : Int) < (N : Int) := by omega
            have wk : IntKind.i64.wrap ((k : Int) + 1) = (k : Int) + 1 := wrapIn _ (by omega)
            obtain ⟨mb, moff, rfl, hmb, hmc⟩ := J1.m.cells (by omega)
            have cm := hmc k (by omega)
            have lmb : mb < wr.heap.size := hmb
            clear hmc
            rw [z0]
            go_wp2_with (first | (go_at_call 37; (with_reducible refine (hit k hlt _ J1.t J1.b).mono ?_); rintro e V1 ⟨o1, c1, o2, c2, rfl, r1, s1, r2, s2, j1⟩; have kb1 := btw j1 (box_below V1 (.cells #[.slice o1 (tn - 1) c1, .slice o2 z c2] 25)) j1.size; have cm1 := (kb1.cell (p := ⟨mb, moff + k, none⟩) lmb).trans cm) | (go_at_call 38; refine (scalar_any (nth zs k) _ bd.1 bd.2).mono ?_; rintro e V2 ⟨o3, c3, rfl, f3, j2⟩; have kb2 := btw j2 (box_below V2 (.cells #[.slice none 0 0, .slice o3 1 c3] 25)) j2.size; have hI := (kb2.block V1.heap.size (by simp)).trans (allocNew V1 (.cells #[.slice o1 (tn - 1) c1, .slice o2 z c2] 25)); obtain ⟨i0, i1, _, _⟩ := box2 hI; obtain ⟨s0', s1', _, _⟩ := box2 (allocNew V2 (.cells #[.slice none 0 0, .slice o3 1 c3] 25)); have rI := (r1.below (box_below V1 (.cells #[.slice o1 (tn - 1) c1, .slice o2 z c2] 25)) (Nat.le_refl _)).below kb2 (Nat.le_refl _); have rJ := (r2.below (box_below V1 (.cells #[.slice o1 (tn - 1) c1, .slice o2 z c2] 25)) (Nat.le_refl _)).below kb2 (Nat.le_refl _); have rS := f3.rd.below (box_below V2 (.cells #[.slice none 0 0, .slice o3 1 c3] 25)) (Nat.le_refl _); have lv1 : V1.heap.size < (V2.alloc (.cells #[.slice none 0 0, .slice o3 1 c3] 25)).heap.size := (Array.getElem?_eq_some_iff.1 hI).1) | (go_at_call 35; (with_reducible refine (hi0 k hlt _ _ _ _ _ _ _ rS rI s1 rJ).mono ?_); rintro e V3 ⟨o4, n4, c4, o5, n5, c5, rfl, g4, g5, j3⟩; have kb3 := btw j3 (box_below V3 (.cells #[.slice o4 n4 c4, .slice o5 n5 c5] 25)) j3.size; obtain ⟨a0, a1, _, _⟩ := box2 (allocNew V3 (.cells #[.slice o4 n4 c4, .slice o5 n5 c5] 25)); have L3 := ((L0.below kb1).below kb2).below kb3; have g5' := g5.below (box_below V3 (.cells #[.slice o4 n4 c4, .slice o5 n5 c5] 25)) (Nat.le_refl _); have hn5 : n5 ≤ z := (by have e1 := g5.rd.len; have e2 := onOk_len (eI G0 z k) ((List.range z).map fun j => F0 (k * z + j)); rw [List.length_map, List.length_range] at e2; omega); obtain ⟨qo, mm, qc, ys, hq1, hq2, hq3, hq4⟩ := L3.row; have lq := (Array.getElem?_eq_some_iff.1 hq1).1; obtain ⟨y0, y1, y2, y3⟩ := box2 hq1) | (at_builtin; refine wpList_joinT tyL rfl _ _ rfl (Wo.heap.size + 1) _ _ _ _ _ _ _ _ rfl rfl hq2 g5'.rd g5'.sl (by omega) lq ?_; intro co cc V5 f5 k5; have hb5 := (k5.block Wo.heap.size (Nat.lt_succ_self _)).trans hq1; obtain ⟨e0, e1, e2, e3⟩ := box2 hb5))
            go_roundw
            case rel => exact ⟨k + 1, by omega, by go_num, rfl, Wb.step (L3.bel.trans (k5.mono (Nat.le_succ _))) hb5 f5 hq3 hn5 (hq4 z0) L0.err z0⟩
            case measure => simp [intOf]; omega
          · obtain rfl : N = k := by omega
            have t1 : decide ((N : Int) < (N : Int)) = false := by simp
            obtain ⟨qo, mm, qc, ys, hq1, hq2, hq3, hq4⟩ := L0.row
            have lq := (Array.getElem?_eq_some_iff.1 hq1).1
            obtain ⟨y0, y1, y2, y3⟩ := box2 hq1
            have hyy := hq4 z0
            subst hyy
            rw [z0]
            go_wp2_with (first | (go_at_call 35; (with_reducible refine (hw0 _ _ _ _ _ J1.xs slx J1.xa J1.t J1.b).mono ?_); rintro e V3 ⟨o1, n1, c1, o2, n2, c2, rfl, g1, g2, j3⟩; have kb3 := btw j3 (box_below V3 (.cells #[.slice o1 n1 c1, .slice o2 n2 c2] 25)) j3.size; obtain ⟨a0, a1, _, _⟩ := box2 (allocNew V3 (.cells #[.slice o1 n1 c1, .slice o2 n2 c2] 25)); have hq3' := (kb3.block Wo.heap.size lq).trans hq1; obtain ⟨d0, d1, _, _⟩ := box2 hq3'; have J3 := J1.below kb3; have J3' := J3; obtain ⟨w0, w1, w2, w3, _, _, _, _, _, _⟩ := J3'; have G1' := g1.rd.below (box_below V3 (.cells #[.slice o1 n1 c1, .slice o2 n2 c2] 25)) (Nat.le_refl _); have G2' := g2.rd.below (box_below V3 (.cells #[.slice o1 n1 c1, .slice o2 n2 c2] 25)) (Nat.le_refl _)) | (go_at_call 34; (with_reducible refine (eq_gen _ _ _ _ _ _ _ _ _ _ _ _ _ _ _ G1' G2' J3.t (hq2.rd.below kb3 (Nat.le_refl _))).mono ?_); rintro e V6 ⟨rfl, k6⟩))
            go_roundw
            case rel => exact ⟨1, by omega, by go_num, J3.below k6⟩
            case measure => simp [intOf]
      · have HR : Hid (fe ((List.range N).map (eI G0 z)) ≠ 0) := hR
        simp only [onOk_no hR] at hw0
        obtain ⟨EE, hEE⟩ : ∃ E, E = fe ((List.range N).map (eI G0 z)) := ⟨_, rfl⟩
        simp only [← hEE] at hw0
        have HEE : Hid (EE = fe ((List.range N).map (eI G0 z))) := hEE
        clear hR hEE
        have St := Wb.start Wo (some ⟨tb, toff, none⟩) tn tc z F0 G0
        go_wp2
        go_loopw [11, 12] (fun f i V => ∃ k : Nat, k ≤ N ∧ i = .int .i64 (k : Nat) ∧ f = .int .i64 (gK (eI G0 z) k) ∧ Wb Wo V (some ⟨tb, toff, none⟩) tn tc z k F0 G0) (fun _ i _ => N - (intOf i).toNat)
        case atStart => exact ⟨0, Nat.zero_le _, rfl, rfl, St⟩
        case round =>
          obtain ⟨k, hk, rfl, rfl, L0⟩ := hrel
          clear St u0 u1 u2 u3
          have J1 := J.below L0.bel
          have J1' := J1
          obtain ⟨u0, u1, u2, u3, _, _, _, _, _, _⟩ := J1'
          by_cases z0 : gK (eI G0 z) k = 0
          ·
            by_cases hlt : k < N
            · have hkz : k * z ≤ bn := by rw [← HNZ.out]; exact Nat.mul_le_mul_right _ hk
              have bd := NZ.out k (by omega)
              have t1 : decide ((k : Int) < (N : Int)) = true := by simp; omega
              have b3 : (k : Int) < (ml : Int) := by omega
              have b4 : (k : Int) < (N : Int) := by omega
              have wk : IntKind.i64.wrap ((k : Int) + 1) = (k : Int) + 1 := wrapIn _ (by omega)
              obtain ⟨mb, moff, rfl, hmb, hmc⟩ := J1.m.cells (by omega)
              have cm := hmc k (by omega)
              have lmb : mb < wr.heap.size := hmb
              clear hmc
              rw [z0]
              go_wp2_with (first | (go_at_call 37; (with_reducible refine (hit k hlt _ J1.t J1.b).mono ?_); rintro e V1 ⟨o1, c1, o2, c2, rfl, r1, s1, r2, s2, j1⟩; have kb1 := btw j1 (box_below V1 (.cells #[.slice o1 (tn - 1) c1, .slice o2 z c2] 25)) j1.size; have cm1 := (kb1.cell (p := ⟨mb, moff + k, none⟩) lmb).trans cm) | (go_at_call 38; refine (scalar_any (nth zs k) _ bd.1 bd.2).mono ?_; rintro e V2 ⟨o3, c3, rfl, f3, j2⟩; have kb2 := btw j2 (box_below V2 (.cells #[.slice none 0 0, .slice o3 1 c3] 25)) j2.size; have hI := (kb2.block V1.heap.size (by simp)).trans (allocNew V1 (.cells #[.slice o1 (tn - 1) c1, .slice o2 z c2] 25)); obtain ⟨i0, i1, _, _⟩ := box2 hI; obtain ⟨s0', s1', _, _⟩ := box2 (allocNew V2 (.cells #[.slice none 0 0, .slice o3 1 c3] 25)); have rI := (r1.below (box_below V1 (.cells #[.slice o1 (tn - 1) c1, .slice o2 z c2] 25)) (Nat.le_refl _)).below kb2 (Nat.le_refl _); have rJ := (r2.below (box_below V1 (.cells #[.slice o1 (tn - 1) c1, .slice o2 z c2] 25)) (Nat.le_refl _)).below kb2 (Nat.le_refl _); have rS := f3.rd.below (box_below V2 (.cells #[.slice none 0 0, .slice o3 1 c3] 25)) (Nat.le_refl _); have lv1 : V1.heap.size < (V2.alloc (.cells #[.slice none 0 0, .slice o3 1 c3] 25)).heap.size := (Array.getElem?_eq_some_iff.1 hI).1) | (go_at_call 35; (with_reducible refine (hi0 k hlt _ _ _ _ _ _ _ rS rI s1 rJ).mono ?_); rintro e V3 ⟨o4, n4, c4, o5, n5, c5, rfl, g4, g5, j3⟩; have kb3 := btw j3 (box_below V3 (.cells #[.slice o4 n4 c4, .slice o5 n5 c5] 25)) j3.size; obtain ⟨a0, a1, _, _⟩ := box2 (allocNew V3 (.cells #[.slice o4 n4 c4, .slice o5 n5 c5] 25)); have L3 := ((L0.below kb1).below kb2).below kb3; have g5' := g5.below (box_below V3 (.cells #[.slice o4 n4 c4, .slice o5 n5 c5] 25)) (Nat.le_refl _); have hn5 : n5 ≤ z := (by have e1 := g5.rd.len; have e2 := onOk_len (eI G0 z k) ((List.range z).map fun j => F0 (k * z + j)); rw [List.length_map, List.length_range] at e2; omega); obtain ⟨qo, mm, qc, ys, hq1, hq2, hq3, hq4⟩ := L3.row; have lq := (Array.getElem?_eq_some_iff.1 hq1).1; obtain ⟨y0, y1, y2, y3⟩ := box2 hq1) | (at_builtin; refine wpList_joinT tyL rfl _ _ rfl (Wo.heap.size + 1) _ _ _ _ _ _ _ _ rfl rfl hq2 g5'.rd g5'.sl (by omega) lq ?_; intro co cc V5 f5 k5; have hb5 := (k5.block Wo.heap.size (Nat.lt_succ_self _)).trans hq1; obtain ⟨e0, e1, e2, e3⟩ := box2 hb5))
              go_roundw
              case rel => exact ⟨k + 1, by omega, by go_num, rfl, Wb.step (L3.bel.trans (k5.mono (Nat.le_succ _))) hb5 f5 hq3 hn5 (hq4 z0) L0.err z0⟩
              case measure => simp [intOf]; omega
            · obtain rfl : N = k := by omega
              exact absurd (fe_full L0.err z0) HR.out
          · have zz1 : (gK (eI G0 z) k == 0) = false := by simpa using z0
            have zz2 : (gK (eI G0 z) k != 0) = true := by simpa using z0
            by_cases hlt : k < N
            · have t1 : decide ((k : Int) < (N : Int)) = true := by simp; omega
              have ee : (EE != gK (eI G0 z) k) = false := by rw [HEE.out, fe_gK hk L0.err z0]; simp
              obtain ⟨qo, mm, qc, ys, hq1, hq2, hq3, hq4⟩ := L0.row
              have lq0 := (Array.getElem?_eq_some_iff.1 hq1).1
              obtain ⟨y0, y1, y2, y3⟩ := box2 hq1
              have belr := below_set2 (b := Wo.heap.size) 0 1 (.slice none 0 0) (.slice none 0 0) L0.bel (Nat.le_refl _) (Nat.le_refl _)
              have q1' := heap_setCell_same wr Wo.heap.size 0 _ 25 (.slice none 0 0) hq1
              have q2' : ((wr.setCell ⟨Wo.heap.size, 0, none⟩ (.slice none 0 0)).setCell ⟨Wo.heap.size, 1, none⟩ (.slice none 0 0)).heap[Wo.heap.size]? = some (.cells #[.slice none 0 0, .slice none 0 0] 25 (0, 0)) := heap_setCell_same _ Wo.heap.size 1 _ 25 (.slice none 0 0) q1'
              have lq := (Array.getElem?_eq_some_iff.1 q2').1
              have JR := J.below belr
              have JR' := JR
              obtain ⟨h0', h1', h2', h3', _, _, _, _, _, _⟩ := JR'
              go_wp2_with (first | (go_at_call 35; (with_reducible refine (hw0 _ _ _ _ _ JR.xs slx JR.xa JR.t JR.b).mono ?_); rintro e V3 ⟨o1, n1, c1, o2, n2, c2, rfl, g1, g2, j3⟩; have kb3 := btw j3 (box_below V3 (.cells #[.slice o1 n1 c1, .slice o2 n2 c2] 25)) j3.size; obtain ⟨a0, a1, _, _⟩ := box2 (allocNew V3 (.cells #[.slice o1 n1 c1, .slice o2 n2 c2] 25)); have hq3' := (kb3.block Wo.heap.size lq).trans q2'; obtain ⟨d0, d1, _, _⟩ := box2 hq3'; have J3 := JR.below kb3; have J3' := J3; obtain ⟨w0, w1, w2, w3, _, _, _, _, _, _⟩ := J3'; have G1' := g1.rd.below (box_below V3 (.cells #[.slice o1 n1 c1, .slice o2 n2 c2] 25)) (Nat.le_refl _); have G2' := g2.rd.below (box_below V3 (.cells #[.slice o1 n1 c1, .slice o2 n2 c2] 25)) (Nat.le_refl _)) | (go_at_call 34; (with_reducible refine (eq_nil _ _ _ _ _ _ _ G1' G2').mono ?_); rintro e V6 ⟨rfl, k6⟩))
              go_roundw
              case rel => exact ⟨1, by omega, by go_num, J3.below k6⟩
              case measure => simp [intOf]
            · obtain rfl : N = k := by omega
              have t1 : decide ((N : Int) < (N : Int)) = false := by simp
              have ee : (EE != gK (eI G0 z) N) = false := by rw [HEE.out, fe_gK hk L0.err z0]; simp
              obtain ⟨qo, mm, qc, ys, hq1, hq2, hq3, hq4⟩ := L0.row
              have lq0 := (Array.getElem?_eq_some_iff.1 hq1).1
              obtain ⟨y0, y1, y2, y3⟩ := box2 hq1
              have belr := below_set2 (b := Wo.heap.size) 0 1 (.slice none 0 0) (.slice none 0 0) L0.bel (Nat.le_refl _) (Nat.le_refl _)
              have q1' := heap_setCell_same wr Wo.heap.size 0 _ 25 (.slice none 0 0) hq1
              have q2' : ((wr.setCell ⟨Wo.heap.size, 0, none⟩ (.slice none 0 0)).setCell ⟨Wo.heap.size, 1, none⟩ (.slice none 0 0)).heap[Wo.heap.size]? = some (.cells #[.slice none 0 0, .slice none 0 0] 25 (0, 0)) := heap_setCell_same _ Wo.heap.size 1 _ 25 (.slice none 0 0) q1'
              have lq := (Array.getElem?_eq_some_iff.1 q2').1
              have JR := J.below belr
              have JR' := JR
              obtain ⟨h0', h1', h2', h3', _, _, _, _, _, _⟩ := JR'
              go_wp2_with (first | (go_at_call 35; (with_reducible refine (hw0 _ _ _ _ _ JR.xs slx JR.xa JR.t JR.b).mono ?_); rintro e V3 ⟨o1, n1, c1, o2, n2, c2, rfl, g1, g2, j3⟩; have kb3 := btw j3 (box_below V3 (.cells #[.slice o1 n1 c1, .slice o2 n2 c2] 25)) j3.size; obtain ⟨a0, a1, _, _⟩ := box2 (allocNew V3 (.cells #[.slice o1 n1 c1, .slice o2 n2 c2] 25)); have hq3' := (kb3.block Wo.heap.size lq).trans q2'; obtain ⟨d0, d1, _, _⟩ := box2 hq3'; have J3 := JR.below kb3; have J3' := J3; obtain ⟨w0, w1, w2, w3, _, _, _, _, _, _⟩ := J3'; have G1' := g1.rd.below (box_below V3 (.cells #[.slice o1 n1 c1, .slice o2 n2 c2] 25)) (Nat.le_refl _); have G2' := g2.rd.below (box_below V3 (.cells #[.slice o1 n1 c1, .slice o2 n2 c2] 25)) (Nat.le_refl _)) | (go_at_call 34; (with_reducible refine (eq_nil _ _ _ _ _ _ _ G1' G2').mono ?_); rintro e V6 ⟨rfl, k6⟩))
              go_roundw
              case rel => exact ⟨1, by omega, by go_num, J3.below k6⟩
              case measure => simp [intOf]
    · rw [show ((1 : Nat) : Int) = 1 from rfl]
      by_cases hR : fe ((List.range N).map (eI G1 z)) = 0
      · have HR : Hid (fe ((List.range N).map (eI G1 z)) = 0) := hR
        simp only [hR, onOk_ok rfl] at hw1
        clear hR
        have St := Wb.start Wo (some ⟨tb, toff, none⟩) tn tc z F1 G1
        go_wp2
        go_loopw [11, 12] (fun f i V => ∃ k : Nat, k ≤ N ∧ i = .int .i64 (k : Nat) ∧ f = .int .i64 (gK (eI G1 z) k) ∧ Wb Wo V (some ⟨tb, toff, none⟩) tn tc z k F1 G1) (fun _ i _ => N - (intOf i).toNat)
        case atStart => exact ⟨0, Nat.zero_le _, rfl, rfl, St⟩
        case round =>
          obtain ⟨k, hk, rfl, rfl, L0⟩ := hrel
          clear St u0 u1 u2 u3
          have J1 := J.below L0.bel
          have J1' := J1
          obtain ⟨u0, u1, u2, u3, _, _, _, _, _, _⟩ := J1'
          have z0 := gK_all HR.out hk
          by_cases hlt : k < N
          · have hkz : k * z ≤ bn := by rw [← HNZ.out]; exact Nat.mul_le_mul_right _ hk
            have bd := NZ.out k (by omega)
            have t1 : decide ((k : Int) < (N : Int)) = true := by simp; omega
            have b3 : (k : Int) < (ml : Int) := by omega
            have b4 : (k : Int) < (N : Int) := by omega
            have wk : IntKind.i64.wrap ((k : Int) + 1) = (k : Int) + 1 := wrapIn _ (by omega)
            obtain ⟨mb, moff, rfl, hmb, hmc⟩ := J1.m.cells (by omega)
            have cm := hmc k (by omega)
            have lmb : mb < wr.heap.size := hmb
            clear hmc
            rw [z0]
            go_wp2_with (first | (go_at_call 37; (with_reducible refine (hit k hlt _ J1.t J1.b).mono ?_); rintro e V1 ⟨o1, c1, o2, c2, rfl, r1, s1, r2, s2, j1⟩; have kb1 := btw j1 (box_below V1 (.cells #[.slice o1 (tn - 1) c1, .slice o2 z c2] 25)) j1.size; have cm1 := (kb1.cell (p := ⟨mb, moff + k, none⟩) lmb).trans cm) | (go_at_call 38; refine (scalar_any (nth zs k) _ bd.1 bd.2).mono ?_; rintro e V2 ⟨o3, c3, rfl, f3, j2⟩; have kb2 := btw j2 (box_below V2 (.cells #[.slice none 0 0, .slice o3 1 c3] 25)) j2.size; have hI := (kb2.block V1.heap.size (by simp)).trans (allocNew V1 (.cells #[.slice o1 (tn - 1) c1, .slice o2 z c2] 25)); obtain ⟨i0, i1, _, _⟩ := box2 hI; obtain ⟨s0', s1', _, _⟩ := box2 (allocNew V2 (.cells #[.slice none 0 0, .slice o3 1 c3] 25)); have rI := (r1.below (box_below V1 (.cells #[.slice o1 (tn - 1) c1, .slice o2 z c2] 25)) (Nat.le_refl _)).below kb2 (Nat.le_refl _); have rJ := (r2.below (box_below V1 (.cells #[.slice o1 (tn - 1) c1, .slice o2 z c2] 25)) (Nat.le_refl _)).below kb2 (Nat.le_refl _); have rS := f3.rd.below (box_below V2 (.cells #[.slice none 0 0, .slice o3 1 c3] 25)) (Nat.le_refl _); have lv1 : V1.heap.size < (V2.alloc (.cells #[.slice none 0 0, .slice o3 1 c3] 25)).heap.size := (Array.getElem?_eq_some_iff.1 hI).1) | (go_at_call 35; (with_reducible refine (hi0 k hlt _ _ _ _ _ _ _ rS rI s1 rJ).mono ?_); rintro e V3 ⟨o4, n4, c4, o5, n5, c5, rfl, g4, g5, j3⟩; have kb3 := btw j3 (box_below V3 (.cells #[.slice o4 n4 c4, .slice o5 n5 c5] 25)) j3.size; obtain ⟨a0, a1, _, _⟩ := box2 (allocNew V3 (.cells #[.slice o4 n4 c4, .slice o5 n5 c5] 25)); have hI3 := (kb3.block V1.heap.size lv1).trans hI; have hS3 := (kb3.block V2.heap.size (by simp)).trans (allocNew V2 (.cells #[.slice none 0 0, .slice o3 1 c3] 25)); obtain ⟨i2, i3, _, _⟩ := box2 hI3; obtain ⟨s2', s3', _, _⟩ := box2 hS3; have rI3 := rI.below kb3 (Nat.le_refl _); have rJ3 := rJ.below kb3 (Nat.le_refl _); have rS3 := rS.below kb3 (Nat.le_refl _)) | (go_at_call 35; (with_reducible refine (hi1 k hlt _ _ _ _ _ _ _ rS3 rI3 s1 rJ3).mono ?_); rintro e V4 ⟨o6, n6, c6, o7, n7, c7, rfl, g6, g7, j4⟩; have hA4 := (j4.block V3.heap.size (by simp)).trans (allocNew V3 (.cells #[.slice o4 n4 c4, .slice o5 n5 c5] 25)); obtain ⟨a2, a3, a4, a5⟩ := box2 hA4; have kset := below_set2 (b := V3.heap.size) 0 1 (.slice o6 n6 c6) (.slice o7 n7 c7) ((box_below V3 (.cells #[.slice o4 n4 c4, .slice o5 n5 c5] 25)).trans (j4.mono (by simp))) (Nat.le_refl _) (Nat.le_refl _); have sA1 := heap_setCell_same V4 V3.heap.size 0 _ 25 (.slice o6 n6 c6) hA4; have sA2 : ((V4.setCell ⟨V3.heap.size, 0, none⟩ (.slice o6 n6 c6)).setCell ⟨V3.heap.size, 1, none⟩ (.slice o7 n7 c7)).heap[V3.heap.size]? = some (.cells #[.slice o6 n6 c6, .slice o7 n7 c7] 25 (0, 0)) := heap_setCell_same _ V3.heap.size 1 _ 25 (.slice o7 n7 c7) sA1; obtain ⟨t0, t1', _, _⟩ := box2 sA2; have L3 := (((L0.below kb1).below kb2).below j3).below kset; have g7' := g7.keep1 (set2 V4 V3.heap.size 0 1 (.slice o6 n6 c6) (.slice o7 n7 c7)) (fun b off e => (by have h9 := (g7.at b off e).1; intro e'; simp only [Option.some.injEq] at e'; rw [World.size_alloc] at h9; omega)); have hn7 : n7 ≤ z := (by have e1 := g7.rd.len; have e2 := onOk_len (eI G1 z k) ((List.range z).map fun j => F1 (k * z + j)); rw [List.length_map, List.length_range] at e2; omega); obtain ⟨qo, mm, qc, ys, hq1, hq2, hq3, hq4⟩ := L3.row; have lq := (Array.getElem?_eq_some_iff.1 hq1).1; obtain ⟨y0, y1, y2, y3⟩ := box2 hq1) | (at_builtin; refine wpList_joinT tyL rfl _ _ rfl (Wo.heap.size + 1) _ _ _ _ _ _ _ _ rfl rfl hq2 g7'.rd g7'.sl (by omega) lq ?_; intro co cc V5 f5 k5; have hb5 := (k5.block Wo.heap.size (Nat.lt_succ_self _)).trans hq1; obtain ⟨e0, e1, e2, e3⟩ := box2 hb5))
            go_roundw
            case rel => exact ⟨k + 1, by omega, by go_num, rfl, Wb.step (L3.bel.trans (k5.mono (Nat.le_succ _))) hb5 f5 hq3 hn7 (hq4 z0) L0.err z0⟩
            case measure => simp [intOf]; omega
          · obtain rfl : N = k := by omega
            have t1 : decide ((N : Int) < (N : Int)) = false := by simp
            obtain ⟨qo, mm, qc, ys, hq1, hq2, hq3, hq4⟩ := L0.row
            have lq := (Array.getElem?_eq_some_iff.1 hq1).1
            obtain ⟨y0, y1, y2, y3⟩ := box2 hq1
            have hyy := hq4 z0
            subst hyy
            rw [z0]
            go_wp2_with (first | (go_at_call 35; (with_reducible refine (hw0 _ _ _ _ _ J1.xs slx J1.xa J1.t J1.b).mono ?_); rintro e V3 ⟨o1, n1, c1, o2, n2, c2, rfl, g1, g2, j3⟩; have kb3 := btw j3 (box_below V3 (.cells #[.slice o1 n1 c1, .slice o2 n2 c2] 25)) j3.size; obtain ⟨a0, a1, _, _⟩ := box2 (allocNew V3 (.cells #[.slice o1 n1 c1, .slice o2 n2 c2] 25)); have hq3' := (kb3.block Wo.heap.size lq).trans hq1; obtain ⟨d0, d1, _, _⟩ := box2 hq3'; have J3 := J1.below kb3; have J3' := J3; obtain ⟨w0, w1, w2, w3, _, _, _, _, _, _⟩ := J3'; have G1' := g1.rd.below (box_below V3 (.cells #[.slice o1 n1 c1, .slice o2 n2 c2] 25)) (Nat.le_refl _); have G2' := g2.rd.below (box_below V3 (.cells #[.slice o1 n1 c1, .slice o2 n2 c2] 25)) (Nat.le_refl _)) | (go_at_call 35; (with_reducible refine (hw1 _ _ _ _ _ J3.xs slx J3.xa J3.t J3.b).mono ?_); rintro e V4 ⟨o6, n6, c6, o7, n7, c7, rfl, g6, g7, j4⟩; have hA4 := (j4.block V3.heap.size (by simp)).trans (allocNew V3 (.cells #[.slice o1 n1 c1, .slice o2 n2 c2] 25)); obtain ⟨a2, a3, a4, a5⟩ := box2 hA4; have kset := below_set2 (b := V3.heap.size) 0 1 (.slice o6 n6 c6) (.slice o7 n7 c7) ((box_below V3 (.cells #[.slice o1 n1 c1, .slice o2 n2 c2] 25)).trans (j4.mono (by simp))) (Nat.le_refl _) (Nat.le_refl _); have sA1 := heap_setCell_same V4 V3.heap.size 0 _ 25 (.slice o6 n6 c6) hA4; have sA2 : ((V4.setCell ⟨V3.heap.size, 0, none⟩ (.slice o6 n6 c6)).setCell ⟨V3.heap.size, 1, none⟩ (.slice o7 n7 c7)).heap[V3.heap.size]? = some (.cells #[.slice o6 n6 c6, .slice o7 n7 c7] 25 (0, 0)) := heap_setCell_same _ V3.heap.size 1 _ 25 (.slice o7 n7 c7) sA1; obtain ⟨t0, t1', _, _⟩ := box2 sA2; have hq4' := (kset.block Wo.heap.size (Nat.lt_of_lt_of_le lq j3.size)).trans ((j3.block Wo.heap.size lq).trans hq1); obtain ⟨d2, d3, _, _⟩ := box2 hq4'; have J4 := (J1.below j3).below kset; have G6' := g6.rd.keep1 (set2 V4 V3.heap.size 0 1 (.slice o6 n6 c6) (.slice o7 n7 c7)) (fun b off e => (by have h9 := (g6.at b off e).1; intro e'; simp only [Option.some.injEq] at e'; rw [World.size_alloc] at h9; omega)); have G7' := g7.rd.keep1 (set2 V4 V3.heap.size 0 1 (.slice o6 n6 c6) (.slice o7 n7 c7)) (fun b off e => (by have h9 := (g7.at b off e).1; intro e'; simp only [Option.some.injEq] at e'; rw [World.size_alloc] at h9; omega))) | (go_at_call 34; (with_reducible refine (eq_gen _ _ _ _ _ _ _ _ _ _ _ _ _ _ _ G6' G7' J4.t ((hq2.rd.below j3 (Nat.le_refl _)).below kset (Nat.le_refl _))).mono ?_); rintro e V6 ⟨rfl, k6⟩))
            go_roundw
            case rel => exact ⟨2, by omega, by go_num, J4.below k6⟩
            case measure => simp [intOf]
      · have HR : Hid (fe ((List.range N).map (eI G1 z)) ≠ 0) := hR
        simp only [onOk_no hR] at hw1
        obtain ⟨EE, hEE⟩ : ∃ E, E = fe ((List.range N).map (eI G1 z)) := ⟨_, rfl⟩
        simp only [← hEE] at hw1
        have HEE : Hid (EE = fe ((List.range N).map (eI G1 z))) := hEE
        clear hR hEE
        have St := Wb.start Wo (some ⟨tb, toff, none⟩) tn tc z F1 G1
        go_wp2
        go_loopw [11, 12] (fun f i V => ∃ k : Nat, k ≤ N ∧ i = .int .i64 (k : Nat) ∧ f = .int .i64 (gK (eI G1 z) k) ∧ Wb Wo V (some ⟨tb, toff, none⟩) tn tc z k F1 G1) (fun _ i _ => N - (intOf i).toNat)
        case atStart => exact ⟨0, Nat.zero_le _, rfl, rfl, St⟩
        case round =>
          obtain ⟨k, hk, rfl, rfl, L0⟩ := hrel
          clear St u0 u1 u2 u3
          have J1 := J.below L0.bel
          have J1' := J1
          obtain ⟨u0, u1, u2, u3, _, _, _, _, _, _⟩ := J1'
          by_cases z0 : gK (eI G1 z) k = 0
          ·
            by_cases hlt : k < N
            · have hkz : k * z ≤ bn := by rw [← HNZ.out]; exact Nat.mul_le_mul_right _ hk
              have bd := NZ.out k (by omega)
              have t1 : decide ((k : Int) < (N : Int)) = true := by simp; omega
              have b3 : (k : Int) < (ml : Int) := by omega
              have b4 : (k : Int) < (N : Int) := by omega
              have wk : IntKind.i64.wrap ((k : Int) + 1) = (k : Int) + 1 := wrapIn _ (by omega)
              obtain ⟨mb, moff, rfl, hmb, hmc⟩ := J1.m.cells (by omega)
              have cm := hmc k (by omega)
              have lmb : mb < wr.heap.size := hmb
              clear hmc
              rw [z0]
              go_wp2_with (first | (go_at_call 37; (with_reducible refine (hit k hlt _ J1.t J1.b).mono ?_); rintro e V1 ⟨o1, c1, o2, c2, rfl, r1, s1, r2, s2, j1⟩; have kb1 := btw j1 (box_below V1 (.cells #[.slice o1 (tn - 1) c1, .slice o2 z c2] 25)) j1.size; have cm1 := (kb1.cell (p := ⟨mb, moff + k, none⟩) lmb).trans cm) | (go_at_call 38; refine (scalar_any (nth zs k) _ bd.1 bd.2).mono ?_; rintro e V2 ⟨o3, c3, rfl, f3, j2⟩; have kb2 := btw j2 (box_below V2 (.cells #[.slice none 0 0, .slice o3 1 c3] 25)) j2.size; have hI := (kb2.block V1.heap.size (by simp)).trans (allocNew V1 (.cells #[.slice o1 (tn - 1) c1, .slice o2 z c2] 25)); obtain ⟨i0, i1, _, _⟩ := box2 hI; obtain ⟨s0', s1', _, _⟩ := box2 (allocNew V2 (.cells #[.slice none 0 0, .slice o3 1 c3] 25)); have rI := (r1.below (box_below V1 (.cells #[.slice o1 (tn - 1) c1, .slice o2 z c2] 25)) (Nat.le_refl _)).below kb2 (Nat.le_refl _); have rJ := (r2.below (box_below V1 (.cells #[.slice o1 (tn - 1) c1, .slice o2 z c2] 25)) (Nat.le_refl _)).below kb2 (Nat.le_refl _); have rS := f3.rd.below (box_below V2 (.cells #[.slice none 0 0, .slice o3 1 c3] 25)) (Nat.le_refl _); have lv1 : V1.heap.size < (V2.alloc (.cells #[.slice none 0 0, .slice o3 1 c3] 25)).heap.size := (Array.getElem?_eq_some_iff.1 hI).1) | (go_at_call 35; (with_reducible refine (hi0 k hlt _ _ _ _ _ _ _ rS rI s1 rJ).mono ?_); rintro e V3 ⟨o4, n4, c4, o5, n5, c5, rfl, g4, g5, j3⟩; have kb3 := btw j3 (box_below V3 (.cells #[.slice o4 n4 c4, .slice o5 n5 c5] 25)) j3.size; obtain ⟨a0, a1, _, _⟩ := box2 (allocNew V3 (.cells #[.slice o4 n4 c4, .slice o5 n5 c5] 25)); have hI3 := (kb3.block V1.heap.size lv1).trans hI; have hS3 := (kb3.block V2.heap.size (by simp)).trans (allocNew V2 (.cells #[.slice none 0 0, .slice o3 1 c3] 25)); obtain ⟨i2, i3, _, _⟩ := box2 hI3; obtain ⟨s2', s3', _, _⟩ := box2 hS3; have rI3 := rI.below kb3 (Nat.le_refl _); have rJ3 := rJ.below kb3 (Nat.le_refl _); have rS3 := rS.below kb3 (Nat.le_refl _)) | (go_at_call 35; (with_reducible refine (hi1 k hlt _ _ _ _ _ _ _ rS3 rI3 s1 rJ3).mono ?_); rintro e V4 ⟨o6, n6, c6, o7, n7, c7, rfl, g6, g7, j4⟩; have hA4 := (j4.block V3.heap.size (by simp)).trans (allocNew V3 (.cells #[.slice o4 n4 c4, .slice o5 n5 c5] 25)); obtain ⟨a2, a3, a4, a5⟩ := box2 hA4; have kset := below_set2 (b := V3.heap.size) 0 1 (.slice o6 n6 c6) (.slice o7 n7 c7) ((box_below V3 (.cells #[.slice o4 n4 c4, .slice o5 n5 c5] 25)).trans (j4.mono (by simp))) (Nat.le_refl _) (Nat.le_refl _); have sA1 := heap_setCell_same V4 V3.heap.size 0 _ 25 (.slice o6 n6 c6) hA4; have sA2 : ((V4.setCell ⟨V3.heap.size, 0, none⟩ (.slice o6 n6 c6)).setCell ⟨V3.heap.size, 1, none⟩ (.slice o7 n7 c7)).heap[V3.heap.size]? = some (.cells #[.slice o6 n6 c6, .slice o7 n7 c7] 25 (0, 0)) := heap_setCell_same _ V3.heap.size 1 _ 25 (.slice o7 n7 c7) sA1; obtain ⟨t0, t1', _, _⟩ := box2 sA2; have L3 := (((L0.below kb1).below kb2).below j3).below kset; have g7' := g7.keep1 (set2 V4 V3.heap.size 0 1 (.slice o6 n6 c6) (.slice o7 n7 c7)) (fun b off e => (by have h9 := (g7.at b off e).1; intro e'; simp only [Option.some.injEq] at e'; rw [World.size_alloc] at h9; omega)); have hn7 : n7 ≤ z := (by have e1 := g7.rd.len; have e2 := onOk_len (eI G1 z k) ((List.range z).map fun j => F1 (k * z + j)); rw [List.length_map, List.length_range] at e2; omega); obtain ⟨qo, mm, qc, ys, hq1, hq2, hq3, hq4⟩ := L3.row; have lq := (Array.getElem?_eq_some_iff.1 hq1).1; obtain ⟨y0, y1, y2, y3⟩ := box2 hq1) | (at_builtin; refine wpList_joinT tyL rfl _ _ rfl (Wo.heap.size + 1) _ _ _ _ _ _ _ _ rfl rfl hq2 g7'.rd g7'.sl (by omega) lq ?_; intro co cc V5 f5 k5; have hb5 := (k5.block Wo.heap.size (Nat.lt_succ_self _)).trans hq1; obtain ⟨e0, e1, e2, e3⟩ := box2 hb5))
              go_roundw
              case rel => exact ⟨k + 1, by omega, by go_num, rfl, Wb.step (L3.bel.trans (k5.mono (Nat.le_succ _))) hb5 f5 hq3 hn7 (hq4 z0) L0.err z0⟩
              case measure => simp [intOf]; omega
            · obtain rfl : N = k := by omega
              exact absurd (fe_full L0.err z0) HR.out
          · have zz1 : (gK (eI G1 z) k == 0) = false := by simpa using z0
            have zz2 : (gK (eI G1 z) k != 0) = true := by simpa using z0
            by_cases hlt : k < N
            · have t1 : decide ((k : Int) < (N : Int)) = true := by simp; omega
              have ee : (EE != gK (eI G1 z) k) = false := by rw [HEE.out, fe_gK hk L0.err z0]; simp
              obtain ⟨qo, mm, qc, ys, hq1, hq2, hq3, hq4⟩ := L0.row
              have lq0 := (Array.getElem?_eq_some_iff.1 hq1).1
              obtain ⟨y0, y1, y2, y3⟩ := box2 hq1
              have belr := below_set2 (b := Wo.heap.size) 0 1 (.slice none 0 0) (.slice none 0 0) L0.bel (Nat.le_refl _) (Nat.le_refl _)
              have q1' := heap_setCell_same wr Wo.heap.size 0 _ 25 (.slice none 0 0) hq1
              have q2' : ((wr.setCell ⟨Wo.heap.size, 0, none⟩ (.slice none 0 0)).setCell ⟨Wo.heap.size, 1, none⟩ (.slice none 0 0)).heap[Wo.heap.size]? = some (.cells #[.slice none 0 0, .slice none 0 0] 25 (0, 0)) := heap_setCell_same _ Wo.heap.size 1 _ 25 (.slice none 0 0) q1'
              have lq := (Array.getElem?_eq_some_iff.1 q2').1
              have JR := J.below belr
              have JR' := JR
              obtain ⟨h0', h1', h2', h3', _, _, _, _, _, _⟩ := JR'
              go_wp2_with (first | (go_at_call 35; (with_reducible refine (hw0 _ _ _ _ _ JR.xs slx JR.xa JR.t JR.b).mono ?_); rintro e V3 ⟨o1, n1, c1, o2, n2, c2, rfl, g1, g2, j3⟩; have kb3 := btw j3 (box_below V3 (.cells #[.slice o1 n1 c1, .slice o2 n2 c2] 25)) j3.size; obtain ⟨a0, a1, _, _⟩ := box2 (allocNew V3 (.cells #[.slice o1 n1 c1, .slice o2 n2 c2] 25)); have hq3' := (kb3.block Wo.heap.size lq).trans q2'; obtain ⟨d0, d1, _, _⟩ := box2 hq3'; have J3 := JR.below kb3; have J3' := J3; obtain ⟨w0, w1, w2, w3, _, _, _, _, _, _⟩ := J3'; have G1' := g1.rd.below (box_below V3 (.cells #[.slice o1 n1 c1, .slice o2 n2 c2] 25)) (Nat.le_refl _); have G2' := g2.rd.below (box_below V3 (.cells #[.slice o1 n1 c1, .slice o2 n2 c2] 25)) (Nat.le_refl _)) | (go_at_call 35; (with_reducible refine (hw1 _ _ _ _ _ J3.xs slx J3.xa J3.t J3.b).mono ?_); rintro e V4 ⟨o6, n6, c6, o7, n7, c7, rfl, g6, g7, j4⟩; have hA4 := (j4.block V3.heap.size (by simp)).trans (allocNew V3 (.cells #[.slice o1 n1 c1, .slice o2 n2 c2] 25)); obtain ⟨a2, a3, a4, a5⟩ := box2 hA4; have kset := below_set2 (b := V3.heap.size) 0 1 (.slice o6 n6 c6) (.slice o7 n7 c7) ((box_below V3 (.cells #[.slice o1 n1 c1, .slice o2 n2 c2] 25)).trans (j4.mono (by simp))) (Nat.le_refl _) (Nat.le_refl _); have sA1 := heap_setCell_same V4 V3.heap.size 0 _ 25 (.slice o6 n6 c6) hA4; have sA2 : ((V4.setCell ⟨V3.heap.size, 0, none⟩ (.slice o6 n6 c6)).setCell ⟨V3.heap.size, 1, none⟩ (.slice o7 n7 c7)).heap[V3.heap.size]? = some (.cells #[.slice o6 n6 c6, .slice o7 n7 c7] 25 (0, 0)) := heap_setCell_same _ V3.heap.size 1 _ 25 (.slice o7 n7 c7) sA1; obtain ⟨t0, t1', _, _⟩ := box2 sA2; have hq4' := (kset.block Wo.heap.size (Nat.lt_of_lt_of_le lq j3.size)).trans ((j3.block Wo.heap.size lq).trans q2'); obtain ⟨d2, d3, _, _⟩ := box2 hq4'; have J4 := (JR.below j3).below kset; have G6' := g6.rd.keep1 (set2 V4 V3.heap.size 0 1 (.slice o6 n6 c6) (.slice o7 n7 c7)) (fun b off e => (by have h9 := (g6.at b off e).1; intro e'; simp only [Option.some.injEq] at e'; rw [World.size_alloc] at h9; omega)); have G7' := g7.rd.keep1 (set2 V4 V3.heap.size 0 1 (.slice o6 n6 c6) (.slice o7 n7 c7)) (fun b off e => (by have h9 := (g7.at b off e).1; intro e'; simp only [Option.some.injEq] at e'; rw [World.size_alloc] at h9; omega))) | (go_at_call 34; (with_reducible refine (eq_nil _ _ _ _ _ _ _ G6' G7').mono ?_); rintro e V6 ⟨rfl, k6⟩))
              go_roundw
              case rel => exact ⟨2, by omega, by go_num, J4.below k6⟩
              case measure => simp [intOf]
            · obtain rfl : N = k := by omega
              have t1 : decide ((N : Int) < (N : Int)) = false := by simp
              have ee : (EE != gK (eI G1 z) N) = false := by rw [HEE.out, fe_gK hk L0.err z0]; simp
              obtain ⟨qo, mm, qc, ys, hq1, hq2, hq3, hq4⟩ := L0.row
              have lq0 := (Array.getElem?_eq_some_iff.1 hq1).1
              obtain ⟨y0, y1, y2, y3⟩ := box2 hq1
              have belr := below_set2 (b := Wo.heap.size) 0 1 (.slice none 0 0) (.slice none 0 0) L0.bel (Nat.le_refl _) (Nat.le_refl _)
              have q1' := heap_setCell_same wr Wo.heap.size 0 _ 25 (.slice none 0 0) hq1
              have q2' : ((wr.setCell ⟨Wo.heap.size, 0, none⟩ (.slice none 0 0)).setCell ⟨Wo.heap.size, 1, none⟩ (.slice none 0 0)).heap[Wo.heap.size]? = some (.cells #[.slice none 0 0, .slice none 0 0] 25 (0, 0)) := heap_setCell_same _ Wo.heap.size 1 _ 25 (.slice none 0 0) q1'
              have lq := (Array.getElem?_eq_some_iff.1 q2').1
              have JR := J.below belr
              have JR' := JR
              obtain ⟨h0', h1', h2', h3', _, _, _, _, _, _⟩ := JR'
              go_wp2_with (first | (go_at_call 35; (with_reducible refine (hw0 _ _ _ _ _ JR.xs slx JR.xa JR.t JR.b).mono ?_); rintro e V3 ⟨o1, n1, c1, o2, n2, c2, rfl, g1, g2, j3⟩; have kb3 := btw j3 (box_below V3 (.cells #[.slice o1 n1 c1, .slice o2 n2 c2] 25)) j3.size; obtain ⟨a0, a1, _, _⟩ := box2 (allocNew V3 (.cells #[.slice o1 n1 c1, .slice o2 n2 c2] 25)); have hq3' := (kb3.block Wo.heap.size lq).trans q2'; obtain ⟨d0, d1, _, _⟩ := box2 hq3'; have J3 := JR.below kb3; have J3' := J3; obtain ⟨w0, w1, w2, w3, _, _, _, _, _, _⟩ := J3'; have G1' := g1.rd.below (box_below V3 (.cells #[.slice o1 n1 c1, .slice o2 n2 c2] 25)) (Nat.le_refl _); have G2' := g2.rd.below (box_below V3 (.cells #[.slice o1 n1 c1, .slice o2 n2 c2] 25)) (Nat.le_refl _)) | (go_at_call 35; (with_reducible refine (hw1 _ _ _ _ _ J3.xs slx J3.xa J3.t J3.b).mono ?_); rintro e V4 ⟨o6, n6, c6, o7, n7, c7, rfl, g6, g7, j4⟩; have hA4 := (j4.block V3.heap.size (by simp)).trans (allocNew V3 (.cells #[.slice o1 n1 c1, .slice o2 n2 c2] 25)); obtain ⟨a2, a3, a4, a5⟩ := box2 hA4; have kset := below_set2 (b := V3.heap.size) 0 1 (.slice o6 n6 c6) (.slice o7 n7 c7) ((box_below V3 (.cells #[.slice o1 n1 c1, .slice o2 n2 c2] 25)).trans (j4.mono (by simp))) (Nat.le_refl _) (Nat.le_refl _); have sA1 := heap_setCell_same V4 V3.heap.size 0 _ 25 (.slice o6 n6 c6) hA4; have sA2 : ((V4.setCell ⟨V3.heap.size, 0, none⟩ (.slice o6 n6 c6)).setCell ⟨V3.heap.size, 1, none⟩ (.slice o7 n7 c7)).heap[V3.heap.size]? = some (.cells #[.slice o6 n6 c6, .slice o7 n7 c7] 25 (0, 0)) := heap_setCell_same _ V3.heap.size 1 _ 25 (.slice o7 n7 c7) sA1; obtain ⟨t0, t1', _, _⟩ := box2 sA2; have hq4' := (kset.block Wo.heap.size (Nat.lt_of_lt_of_le lq j3.size)).trans ((j3.block Wo.heap.size lq).trans q2'); obtain ⟨d2, d3, _, _⟩ := box2 hq4'; have J4 := (JR.below j3).below kset; have G6' := g6.rd.keep1 (set2 V4 V3.heap.size 0 1 (.slice o6 n6 c6) (.slice o7 n7 c7)) (fun b off e => (by have h9 := (g6.at b off e).1; intro e'; simp only [Option.some.injEq] at e'; rw [World.size_alloc] at h9; omega)); have G7' := g7.rd.keep1 (set2 V4 V3.heap.size 0 1 (.slice o6 n6 c6) (.slice o7 n7 c7)) (fun b off e => (by have h9 := (g7.at b off e).1; intro e'; simp only [Option.some.injEq] at e'; rw [World.size_alloc] at h9; omega))) | (go_at_call 34; (with_reducible refine (eq_nil _ _ _ _ _ _ _ G6' G7').mono ?_); rintro e V6 ⟨rfl, k6⟩))
              go_roundw
              case rel => exact ⟨2, by omega, by go_num, J4.below k6⟩
              case measure => simp [intOf]
    · go_wp2
      go_ret
      exact ⟨rfl, J.bel⟩

theorem below_walk (op : Int) (mo to bo : Option Addr) (ml mc tn tc bn bc : Nat) (zs sy ay : List Int) (w : World) (h1 : Rd w mo ml zs) (h3 : Rd w to tn sy) (h4 : Rd w bo bn ay) (hm : Sl mo ml mc) (ht : Sl to tn tc) (hb : Sl bo bn bc) :
    Calls Try.prog 8 #[.int .i64 op, .slice mo ml mc, .agg #[.slice to tn tc, .slice bo bn bc]] w fun e w' => e = .returned (.bool true) ∧ Below w.heap.size w w' := by
  cases c : hasB op 2
  · exact bl_has op mo to bo ml mc tn tc bn bc zs sy ay w h1 h3 h4 hm ht hb c
  · by_cases m : mayA sy ay = 0
    · by_cases hz : tn = 0
      · exact bl_scalar op mo to bo ml mc tn tc bn bc zs sy ay w h1 h3 h4 hm ht hb c m hz
      · obtain ⟨N, z, a1, a2, a3, a4, a5, a6, a7, a8, a9, b1, b2, b3, b4⟩ := below_facts m (by rw [h3.len]; omega)
        by_cases hf : ml < N
        · exact bl_few op mo to bo ml mc tn tc bn bc zs sy ay w h1 h3 h4 hm ht hb c m (by omega) N a1 hf
        · exact bl_go op mo to bo ml mc tn tc bn bc zs sy ay w h1 h3 h4 hm ht hb c m (by omega) N z a1 (by omega) a2 a3 a4 a5 a6 a7 a8 a9 b1 b2 b3 b4
    · exact bl_may op mo to bo ml mc tn tc bn bc zs sy ay w h1 h3 h4 hm ht hb c m
end Go.Proofs.Ytjllmfahmlfljaa
