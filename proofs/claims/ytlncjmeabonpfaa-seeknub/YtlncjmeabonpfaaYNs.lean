
/- SeekNub: the law, its way 'small'. -/

import Derived.Test.YtlncjmeabonpfaaYNe

namespace Go.Proofs.Ytlncjmeabonpfaa

open Go.RowKit

set_option linter.unusedVariables false

set_option maxHeartbeats 16000000 in
set_option maxRecDepth 20000 in
theorem nub_small (so : Option Addr) (sn sc : Nat) (ao : Option Addr) (an ac : Nat) (sh at' : List Int) (w : World) (h : Rd w so sn sh) (hs : Sl so sn sc) (g : Rd w ao an at') (gs : Sl ao an ac) (mx : mayA sh at' = 0) (hm0 : 0 < (nbP sh at').length) (hb : ¬ 4096 < (nbP sh at').length * itN sh) :
    Calls Try.prog 4 #[.agg #[.slice so sn sc, .slice ao an ac]] w fun e w' => e = .returned (.bool true) ∧ Below w.heap.size w w' := by
  have I0 := g1_start w so sn sc ao an ac sh at' h g
  have cX := fun V (I : Ar V w.heap.size so sn sc ao an ac sh at') => mayA_any so ao sn sc an ac sh at' V I.s I.a
  have cTY := fun V (I : Ar V w.heap.size so sn sc ao an ac sh at') => items_any so ao sn sc an ac sh at' V I.s I.a
  rw [mx] at cX
  rw [show itm sh at' = tal sh from if_pos mx, ← itN_tal (mayA_zero mx).1] at cTY
  have hn4 := itN_le (mayA_zero mx).1
  have hle := nbP_len sh at'
  have cA := fun V (I : Ar V w.heap.size so sn sc ao an ac sh at') => monadS_nub so ao sn sc an ac sh at' (fun S A => S = (((nbP sh at').length : Int) :: sh.drop 1) ∧ A = chA (itX sh at') (nbP sh at') (nbP sh at').length) 0 V I.s I.a mx (fun U k => (nub_any so ao sn sc an ac sh at' U (I.s.below k (Nat.le_refl _)) hs (I.a.below k (Nat.le_refl _)) gs mx).mono fun e w' ⟨o1, n1, c1, o2, n2, c2, he, f1, f2, b⟩ => ⟨o1, n1, c1, o2, n2, c2, _, _, he, f1, f2, ⟨rfl, rfl⟩, b⟩)
  have cB := fun V (I : Ar V w.heap.size so sn sc ao an ac sh at') => monadS_ne so ao sn sc an ac sh at' _ 0 V I.s I.a mx (fun U k => isFirst_any so ao sn sc an ac sh at' U (I.s.below k (Nat.le_refl _)) hs (I.a.below k (Nat.le_refl _)) gs mx)
  have cC := fun V (I : Ar V w.heap.size so sn sc ao an ac sh at') => monadS_eq so ao sn sc an ac sh at' _ _ V I.s I.a mx (fun U k => classify_any so ao sn sc an ac sh at' U (I.s.below k (Nat.le_refl _)) hs (I.a.below k (Nat.le_refl _)) gs mx)
  rw [mayF_two (Nat.le_trans hle hn4) hn4, if_neg hb] at cC
  obtain ⟨hmc, hnc, hxc⟩ := cho_may (ps := nbP sh at') mx hle rfl (nbP_in sh at')
  have HIX : Hid (∀ k, k < itN sh → itmE sh at' k = 0 ∧ itmS sh at' k = (itX sh at' k).1 ∧ itmA sh at' k = (itX sh at' k).2) := fun k hk => itX_itm mx hk
  have cIX : ∀ V, Ar V w.heap.size so sn sc ao an ac sh at' → ∀ (j : Nat), j < itN sh → Calls Try.prog 12 #[.agg #[.slice so sn sc, .slice ao an ac], .int .i64 (j : Nat)] V (fun e w' => ∃ o1 n1 c1 o2 n2 c2, e = .returned (.tuple #[.agg #[.slice o1 n1 c1, .slice o2 n2 c2], .int .i64 0]) ∧ Ft 3 w' V.heap.size o1 n1 c1 (itX sh at' j).1 ∧ Ft 2 w' V.heap.size o2 n2 c2 (itX sh at' j).2 ∧ Below V.heap.size V w') := fun V I j hj => (item_any so ao sn sc an ac sh at' (j : Int) V I.s hs I.a gs).mono (by
    rintro e w' ⟨o1, n1, c1, o2, n2, c2, rfl, f1, f2, _, b⟩
    obtain ⟨q1, q2, q3⟩ := HIX.out j hj
    rw [q2] at f1
    rw [q3] at f2
    exact ⟨o1, n1, c1, o2, n2, c2, by rw [q1], f1, f2, b⟩)
  have cIC : ∀ V gc oc nc cc pc mc dc, Sl oc nc cc → Sl pc mc dc → Ar V gc oc nc cc pc mc dc (((nbP sh at').length : Int) :: sh.drop 1) (chA (itX sh at') (nbP sh at') (nbP sh at').length) → ∀ (l k : Nat), l < (nbP sh at').length → nth (nbP sh at') l = (k : Int) → Calls Try.prog 12 #[.agg #[.slice oc nc cc, .slice pc mc dc], .int .i64 (l : Nat)] V (fun e w' => ∃ o1 n1 c1 o2 n2 c2, e = .returned (.tuple #[.agg #[.slice o1 n1 c1, .slice o2 n2 c2], .int .i64 0]) ∧ Ft 3 w' V.heap.size o1 n1 c1 (itX sh at' k).1 ∧ Ft 2 w' V.heap.size o2 n2 c2 (itX sh at' k).2 ∧ Below V.heap.size V w') := fun V gc oc nc cc pc mc dc s1 s2 I l k hl hj => (item_any oc pc nc cc mc dc _ _ (l : Int) V I.s s1 I.a s2).mono (by
    rintro e w' ⟨o1, n1, c1, o2, n2, c2, rfl, f1, f2, _, b⟩
    obtain ⟨q1, q2, q3⟩ := itX_itm hmc (k := l) (by rw [hnc]; exact hl)
    have q4 := hxc l hl
    rw [hj, Int.toNat_natCast] at q4
    rw [q4] at q2 q3
    rw [q2] at f1
    rw [q3] at f2
    exact ⟨o1, n1, c1, o2, n2, c2, by rw [q1], f1, f2, b⟩)
  have eTc : itm (((nbP sh at').length : Int) :: sh.drop 1) (chA (itX sh at') (nbP sh at') (nbP sh at').length) = ((nbP sh at').length : Int) := by rw [show itm (((nbP sh at').length : Int) :: sh.drop 1) (chA (itX sh at') (nbP sh at') (nbP sh at').length) = tal (((nbP sh at').length : Int) :: sh.drop 1) from if_pos hmc, ← itN_tal (mayA_zero hmc).1, hnc]
  have cTC := fun V gc oc nc cc pc mc dc (I : Ar V gc oc nc cc pc mc dc (((nbP sh at').length : Int) :: sh.drop 1) (chA (itX sh at') (nbP sh at') (nbP sh at').length)) => items_any oc pc nc cc mc dc _ _ V I.s I.a
  have cMC := fun V gc oc nc cc pc mc dc (I : Ar V gc oc nc cc pc mc dc (((nbP sh at').length : Int) :: sh.drop 1) (chA (itX sh at') (nbP sh at') (nbP sh at').length)) => mayA_any oc pc nc cc mc dc _ _ V I.s I.a
  rw [hmc] at cMC
  rw [eTc] at cTC
  have HNB : Hid (nbP sh at' = nwo (fsL (itX sh at') (itN sh)) (itN sh)) := rfl
  clear hmc hnc hxc eTc mx
  generalize nbP sh at' = nb at *
  generalize itX sh at' = xs at *
  generalize itN sh = n at *
  have HMT : Hid (∀ i, i < n → ∃ f P : Nat, f ≤ i ∧ nth (fsL xs n) i = (f : Int) ∧ P < nb.length ∧ P ≤ (nwo (fsL xs n) i).length ∧ (P = (nwo (fsL xs n) i).length ↔ f = i) ∧ ∀ k, k < nb.length → ∃ v : Nat, v < n ∧ nth nb k = (v : Int) ∧ (xs i = xs v ↔ k = P) ∧ (v = f ↔ k = P)) := fun i hi => by
    have := nub_math xs n hi
    rw [← HNB.out] at this
    exact this
  obtain ⟨fs, hfs⟩ : ∃ fs, fsL xs n = fs := ⟨_, rfl⟩
  rw [hfs] at HMT HNB cB cC
  have HLN : Hid (nb.length = (nwo fs n).length) := congrArg List.length HNB.out
  obtain ⟨m, hm⟩ : ∃ m, nb.length = m := ⟨_, rfl⟩
  have HM : Hid (nb.length = m) := hm
  rw [hm] at HMT HLN cA cIC cTC cMC hle hb hm0 cC
  clear hfs hm HNB
  have tm0 : decide (0 < (m : Int)) = true := by simp; omega
  have bm0 : 0 < (m : Int) := by omega
  have nm0 : (m : Int) ≠ 0 := by omega
  have bq0 : ((m : Int) == 0) = false := by simp; omega
  have hqd := Nat.div_lt_iff_lt_mul (x := 4096) (y := n) hm0
  have eqd : Int.tdiv 4096 (m : Int) = ((4096 / m : Nat) : Int) := Int.ofNat_tdiv 4096 m
  have hq4 : 4096 / m ≤ 4096 := Nat.div_le_self _ _
  generalize 4096 / m = Q at *
  have wQ := wrY (z := (Q : Int)) (by omega) (by omega)
  have tQ : decide ((Q : Int) < (n : Int)) = false := by rw [Nat.mul_comm n m] at hqd; simp; omega
  have tQ2 : decide (Q < n) = false := by rw [Nat.mul_comm n m] at hqd; simp; omega
  have bQ : ¬ Q < n := by simpa using tQ2
  clear hqd
  have tmn : decide ((n : Int) < (m : Int)) = false := by simp; omega
  have tmn2 : decide (n < m) = false := by simp; omega
  have bmn : ¬ n < m := by omega
  have tnn : ((n : Int) != (n : Int)) = false := by simp
  have tmm : ((m : Int) != (m : Int)) = false := by simp
  obtain ⟨x0, x1, _, _⟩ := box2 I0.x.box
  go_enter Try.func4, Try.ntmps4
  go_upto_region 9 with (first
    | (go_at_call 7; (with_reducible refine (begun7_any _).mono ?_); rintro e W1 ⟨rfl, k1⟩; have I1 := I0.below k1; obtain ⟨p0, p1, _, _⟩ := box2 I1.x.box)
    | (go_at_call 8; (with_reducible refine (cX _ I1.x).mono ?_); rintro e W2 ⟨rfl, k2⟩; have I2 := I1.below k2; obtain ⟨q2, q3, _, _⟩ := box2 I2.x.box)
    | (go_at_call 9; (with_reducible refine (cA _ I2.x).mono ?_); rintro e W3 ⟨oa, na, ca, pa, ma, da, SA, AA, rfl, f3, g3, ⟨rfl, rfl⟩, k3⟩; have kb3 := box_below W3 (.cells #[.slice oa na ca, .slice pa ma da] 25); have I3 := (I2.below k3).below kb3; have A3 := ar_new (c := ca) (d := da) f3.rd g3.rd; have sa1 := f3.sl; have sa2 := g3.sl; obtain ⟨y0, y1, _, _⟩ := box2 I3.x.box)
    | (go_at_call 9; (with_reducible refine (cB _ I3.x).mono ?_); rintro e W4 ⟨ob, n1, cb, pb, mb, db, SB, AB, rfl, f4, g4, ⟨rfl, rfl⟩, k4⟩; have kb4 := box_below W4 (.cells #[.slice ob n1 cb, .slice pb mb db] 25); have I4 := (I3.below k4).below kb4; have A4 := (A3.below k4).below kb4; have B4 := ar_new (c := cb) (d := db) f4.rd g4.rd; obtain ⟨z0, z1, _, _⟩ := box2 I4.x.box)
    | (go_at_call 9; (with_reducible refine (cC _ I4.x).mono ?_); rintro e W5 ⟨oc, nc, cc, pc, mc, dc, SC, AC, rfl, f5, g5, hΦ, k5⟩; have kb5 := box_below W5 (.cells #[.slice oc nc cc, .slice pc mc dc] 25); have I5 := (I4.below k5).below kb5; have A5 := (A4.below k5).below kb5; have B5 := (B4.below k5).below kb5; have C5 := ar_new (c := cc) (d := dc) f5.rd g5.rd))
  obtain ⟨rfl, rfl⟩ : SC = [(m : Int), (n : Int)] ∧ AC = ckL nb fs n := by first | exact hΦ trivial | exact hΦ rfl | exact hΦ
  clear hΦ
  have e1 : n1 = 1 := B5.s.len.symm
  have e2 : mb = n := B5.a.len.symm.trans (ifL_len _ _)
  subst e1 e2
  have al : ∀ V, G1 w V so sn sc ao an ac sh at' → Ar V W3.heap.size oa na ca pa ma da (((m : Nat) : Int) :: sh.drop 1) (chA xs nb m) → V.cell? ⟨w.heap.size, 0, none⟩ = some (.slice so sn sc) ∧ V.cell? ⟨w.heap.size, 1, none⟩ = some (.slice ao an ac) ∧ V.cell? ⟨W3.heap.size, 0, none⟩ = some (.slice oa na ca) ∧ V.cell? ⟨W3.heap.size, 1, none⟩ = some (.slice pa ma da) := fun V I J => ⟨(box2 I.x.box).1, (box2 I.x.box).2.1, (box2 J.box).1, (box2 J.box).2.1⟩
  have kd : Below (W5.alloc (.cells #[.slice oc nc cc, .slice pc mc dc] 25)).heap.size (W5.alloc (.cells #[.slice oc nc cc, .slice pc mc dc] 25)) (W5.alloc (.cells #[.slice oc nc cc, .slice pc mc dc] 25)).drew := (Below.refl _ _).drew
  have I6 := I5.below kd
  have A6 := A5.below kd
  have B6 := B5.below kd
  have C6 := C5.below kd
  clear I0 I1 I2 I3 I4 I5 A3 A4 A5 B4 B5 C5 k1 k2 k3 k4 k5 kb3 kb4 kb5 kd f3 g3 f4 g4 f5 g5 x0 x1 p0 p1 q2 q3 y0 y1 z0 z1 cX cA cB cC
  go_region_held3 (fun V => V.cell? ⟨w.heap.size, 0, none⟩ = some (.slice so sn sc) ∧ V.cell? ⟨w.heap.size, 1, none⟩ = some (.slice ao an ac) ∧ V.cell? ⟨W3.heap.size, 0, none⟩ = some (.slice oa na ca) ∧ V.cell? ⟨W3.heap.size, 1, none⟩ = some (.slice pa ma da)) (first | exact al _ I6 A6 | exact al _ I7 A7 | exact al _ I8 A8)
    (first
      | (go_at_call 10; (with_reducible refine (cTY _ I6.x).mono ?_); rintro e W7 ⟨rfl, k7⟩; have I7 := I6.below k7; have A7 := A6.below k7; have B7 := B6.below k7; have C7 := C6.below k7)
      | (go_at_call 10; (with_reducible refine (cTC _ _ _ _ _ _ _ _ A7).mono ?_); rintro e W8 ⟨rfl, k8⟩; have I8 := I7.below k8; have A8 := A7.below k8; have B8 := B7.below k8; have C8 := C7.below k8))
  obtain ⟨x0, x1, _, _⟩ := box2 A8.box
  clear al I6 I7 A6 A7 B6 B7 C6 C7 k7 k8 cTY cTC
  generalize W3.heap.size = ga at *
  generalize W4.heap.size = gb at *
  generalize W5.heap.size = gc at *
  have e3 : nc = 2 := C8.s.len.symm
  have e4 : m * mb = mc := by have := C8.a.len; rw [ckL_len, HM.out] at this; exact this
  subst e3
  have HMC : Hid (m * mb = mc) := e4
  have enm : (mb : Int) * (m : Int) = (mc : Int) := by rw [← Int.natCast_mul, Nat.mul_comm, e4]
  rw [e4] at hb
  have hmc4 : mc ≤ 4096 := by omega
  clear e4
  have wnm := wrY (z := (mb : Int) * (m : Int)) (by omega) (by omega)
  have wmc := wrY (z := (mc : Int)) (by omega) (by omega)
  have tmc : ((mc : Int) != (mc : Int)) = false := by simp
  obtain ⟨rs, ros, eps, hrs, hcs⟩ := C8.s.cells (by omega)
  subst eps
  have HC0 : Hid (∀ V, Below W8.heap.size W8 V → V.cell? ⟨rs, ros, none⟩ = some (.int .i64 (m : Nat)) ∧ V.cell? ⟨rs, ros + 1, none⟩ = some (.int .i64 (mb : Nat))) := fun V hV => ⟨(hV.cell (p := ⟨rs, ros, none⟩) hrs).trans (hcs 0 (by omega)), (hV.cell (p := ⟨rs, ros + 1, none⟩) hrs).trans (hcs 1 (by omega))⟩
  clear hcs
  go_wp2_with (first
    | (go_at_call 8; (with_reducible refine (cMC _ _ _ _ _ _ _ _ A8).mono ?_); rintro e W9 ⟨rfl, k9⟩; have I9 := I8.below k9; have A9 := A8.below k9; have B9 := B8.below k9; have C9 := C8.below k9; obtain ⟨u0, u1, _, _⟩ := box2 B9.box; obtain ⟨u2, u3, _, _⟩ := box2 C9.box; obtain ⟨c90, c91⟩ := HC0.out _ k9))
  clear I8 A8 B8 C8 u0 u1 u2 u3 x0 x1 cMC
  have LO : ∀ {V : World}, Below W9.heap.size W9 V → G1 w V so sn sc ao an ac sh at' ∧ Ar V ga oa na ca pa ma da (((m : Nat) : Int) :: sh.drop 1) (chA xs nb m) ∧ Ar V gb ob 1 cb pb mb db [(mb : Int)] (ifL fs mb) ∧ Ar V gc (some ⟨rs, ros, none⟩) 2 cc pc mc dc [(m : Int), (mb : Int)] (ckL nb fs mb) := fun hV => ⟨I9.below hV, A9.lowF hV (Nat.le_refl _), B9.lowF hV (Nat.le_refl _), C9.lowF hV (Nat.le_refl _)⟩
  clear I9 A9 B9 C9 k9
  go_loopw [14, 15] (fun lv iv V => ∃ (k : Nat), k ≤ mb ∧ iv = .int .i64 (k : Nat) ∧ lv = .int .i64 ((nwo fs k).length : Nat) ∧ Below W9.heap.size W9 V) (fun _ iv _ => mb - (intOf iv).toNat)
  case atStart => exact ⟨0, Nat.zero_le _, rfl, rfl, Below.refl _ _⟩
  case round =>
    obtain ⟨k, hk, rfl, rfl, BV⟩ := hrel
    by_cases hlt : k < mb
    · obtain ⟨f, P, hfk, hfv, hP, hPm, hPf, HV'⟩ := HMT.out k hlt
      have HV : Hid (∀ k_1, k_1 < m → ∃ v : Nat, v < mb ∧ nth nb k_1 = (v : Int) ∧ (xs k = xs v ↔ k_1 = P) ∧ (v = f ↔ k_1 = P)) := HV'
      have HPF : Hid (P = (nwo fs k).length ↔ f = k) := hPf
      have HFV : Hid (nth fs k = (f : Int)) := hfv
      have hlk := nwo_len fs k
      have HSU : Hid ((nwo fs (k + 1)).length = (nwo fs k).length + if f = k then 1 else 0) := by
        show _ = _
        rw [nwo_succ, hfv, List.length_append]
        by_cases e : f = k
        · rw [if_pos e, if_pos (by omega)]; rfl
        · rw [if_neg e, if_neg (by omega)]; rfl
      have HSI : Hid (nth (ifL fs mb) k = if f = k then 1 else 0) := by
        show _ = _
        rw [ifL_nth hlt, hfv]
        by_cases e : f = k
        · subst e; simp
        · rw [if_neg e, if_neg (by simp; omega)]
      generalize (nwo fs k).length = mt at *
      clear HV' hPf hfv
      obtain ⟨LF, _, _, _⟩ := LO BV
      have t3 : decide ((k : Int) < (mb : Int)) = true := by simp; omega
      have wk := wrY (z := (k : Int) + 1) (by omega) (by omega)
      have bk : (k : Int) < (mb : Int) := by omega
      obtain ⟨y0, y1, _, _⟩ := box2 LF.x.box
      go_wp2_with (first
        | (go_at_call 12; (with_reducible refine (cIX _ LF.x k hlt).mono ?_); rintro e V1 ⟨o1, n1, c1, o2, n2, c2, rfl, f1, f2, j1⟩; have kz := box_below V1 (.cells #[.slice o1 n1 c1, .slice o2 n2 c2] 25); have Z1 := ar_new (c := c1) (d := c2) f1.rd f2.rd; have B1 := (BV.trans (j1.mono BV.size)).trans (kz.mono (Nat.le_trans BV.size j1.size))))
      clear j1 kz f1 f2 LF y0 y1
      generalize V1.heap.size = gz at *
      generalize V1.alloc (.cells #[.slice o1 n1 c1, .slice o2 n2 c2] 25) = V2 at *
      go_loopw [18, 19, 20] (fun av nv kv V => ∃ (q : Nat) (a c : Int), q ≤ m ∧ av = .int .i64 a ∧ nv = .int .i64 c ∧ kv = .int .i64 (q : Nat) ∧ (a = if P < q then (P : Int) else -1) ∧ (c = if P < q then 1 else 0) ∧ Below V2.heap.size V2 V) (fun _ _ kv _ => m - (intOf kv).toNat)
      case atStart => exact ⟨0, _, _, Nat.zero_le _, rfl, rfl, rfl, by rw [if_neg (by omega)], by rw [if_neg (by omega)], Below.refl _ _⟩
      case round =>
        obtain ⟨q, a, c, hq, rfl, rfl, rfl, ha, hc, BQ⟩ := hrel
        have B2 := B1.trans (BQ.mono B1.size)
        obtain ⟨LF, LA, LB, LC⟩ := LO B2
        have ZQ := Z1.below BQ
        by_cases hqt : q < m
        · obtain ⟨v, hv, hnv, hxv, hvf⟩ := HV.out q hqt
          have t4 : decide ((q : Int) < (m : Int)) = true := by simp; omega
          have wq := wrY (z := (q : Int) + 1) (by omega) (by omega)
          have bq : (q : Int) < (m : Int) := by omega
          have cI := cIC _ _ _ _ _ _ _ _ sa1 sa2 LA q v hqt hnv
          obtain ⟨w0, w1, _, _⟩ := box2 LA.box
          have hkn : q * mb + k < mc := by
            have := Nat.mul_le_mul_right mb (show q + 1 ≤ m by omega)
            rw [Nat.succ_mul, HMC.out] at this
            omega
          have HCK : Hid (nth (ckL nb fs mb) (q * mb + k) = if ((v : Int) == (f : Int)) = true then 1 else 0) := by
            show _ = _
            rw [ckL_nth (by rw [HM.out]; exact hqt) hlt, hnv, HFV.out]
          have ek : (q : Int) * (mb : Int) = ((q * mb : Nat) : Int) := (Int.natCast_mul q mb).symm
          have wm := wrY (z := (q : Int) * (mb : Int)) (by omega) (by omega)
          obtain ⟨kn, hkn2⟩ : ∃ kn, q * mb = kn := ⟨_, rfl⟩
          rw [hkn2] at hkn HCK ek
          have wkn := wrY (z := (kn : Int)) (by omega) (by omega)
          have wa := wrY (z := (kn : Int) + (k : Int)) (by omega) (by omega)
          obtain ⟨p, hpp⟩ : ∃ p, kn + k = p := ⟨_, rfl⟩
          have ep : (kn : Int) + (k : Int) = (p : Int) := by omega
          rw [hpp] at hkn HCK
          have wp := wrY (z := (p : Int)) (by omega) (by omega)
          have bp : (p : Int) < (mc : Int) := by omega
          clear hkn2 hpp
          obtain ⟨rc, roc, epc, hrc, hcc⟩ := LC.a.cells (by omega)
          subst epc
          have HCL : Hid (∀ V, Below W9.heap.size W9 V → V.cell? ⟨rc, roc + p, none⟩ = some (.int .i64 (if ((v : Int) == (f : Int)) = true then 1 else 0))) := fun V hV => by
            obtain ⟨b, off, e, _, hcc'⟩ := (LO hV).2.2.2.a.cells (by omega)
            cases e
            have := hcc' p hkn
            rw [HCK.out] at this
            exact this
          clear hcc HCK
          clear LB
          by_cases he : q = P
          · have HX : xs k = xs v := hxv.2 he
            obtain rfl : a = -1 := by rw [ha, if_neg (by omega)]
            obtain rfl : c = 0 := by rw [hc, if_neg (by omega)]
            have HE : Hid (q = P) := he
            clear ha hc hxv
            rw [if_pos (by have := hvf.2 he; simp; omega)] at HCL
            clear he
            go_wp2_with (first
              | (go_at_call 12; (with_reducible refine cI.mono ?_); rintro e V3 ⟨d1, d2, d3, d4, d5, d6, rfl, f3, f4, j3⟩; have kz3 := box_below V3 (.cells #[.slice d1 d2 d3, .slice d4 d5 d6] 25); have X3 := ar_new (c := d3) (d := d6) f3.rd f4.rd; have Z3 := (ZQ.below j3).below kz3; have B3 := (BQ.trans (j3.mono BQ.size)).trans (kz3.mono (Nat.le_trans BQ.size j3.size)); obtain ⟨v0, v1, _, _⟩ := box2 X3.box; obtain ⟨v2, v3, _, _⟩ := box2 Z3.box; have cSm := smA _ o1 o2 d1 d4 n1 c1 n2 c2 d2 d3 d5 d6 (xs k) (xs v) Z3.s Z3.a X3.s X3.a; rw [decide_eq_true HX] at cSm)
              | (go_at_call 13; (with_reducible refine cSm.mono ?_); rintro e V4 ⟨rfl, j4⟩; have B4 := B3.trans (j4.mono B3.size); have BT := B1.trans (B4.mono B1.size); have c4 := HCL.out _ BT; obtain ⟨u2, u3, _, _⟩ := box2 (LO BT).2.2.2.box))
            go_roundw
            case rel => exact ⟨q + 1, _, _, by omega, rfl, rfl, by go_num, by have := HE.out; rw [if_pos (by omega)]; omega, by have := HE.out; rw [if_pos (by omega)]; try omega, B4⟩
            case measure => simp [intOf]; omega
          · have HX : xs k ≠ xs v := fun e => he (hxv.1 e)
            have ea : a = if P < q + 1 then (P : Int) else -1 := by rw [ha]; split <;> split <;> omega
            have ec : c = if P < q + 1 then 1 else 0 := by rw [hc]; split <;> split <;> omega
            have HEA : Hid (a = if P < q + 1 then (P : Int) else -1) := ea
            have HEC : Hid (c = if P < q + 1 then 1 else 0) := ec
            clear ha hc hxv ea ec
            rw [if_neg (by have : v ≠ f := fun e => he (hvf.1 e); simp; omega)] at HCL
            clear he
            go_wp2_with (first
              | (go_at_call 12; (with_reducible refine cI.mono ?_); rintro e V3 ⟨d1, d2, d3, d4, d5, d6, rfl, f3, f4, j3⟩; have kz3 := box_below V3 (.cells #[.slice d1 d2 d3, .slice d4 d5 d6] 25); have X3 := ar_new (c := d3) (d := d6) f3.rd f4.rd; have Z3 := (ZQ.below j3).below kz3; have B3 := (BQ.trans (j3.mono BQ.size)).trans (kz3.mono (Nat.le_trans BQ.size j3.size)); obtain ⟨v0, v1, _, _⟩ := box2 X3.box; obtain ⟨v2, v3, _, _⟩ := box2 Z3.box; have cSm := smA _ o1 o2 d1 d4 n1 c1 n2 c2 d2 d3 d5 d6 (xs k) (xs v) Z3.s Z3.a X3.s X3.a; rw [decide_eq_false HX] at cSm)
              | (go_at_call 13; (with_reducible refine cSm.mono ?_); rintro e V4 ⟨rfl, j4⟩; have B4 := B3.trans (j4.mono B3.size); have BT := B1.trans (B4.mono B1.size); have c4 := HCL.out _ BT; obtain ⟨u2, u3, _, _⟩ := box2 (LO BT).2.2.2.box))
            go_roundw
            case rel => exact ⟨q + 1, _, _, by omega, rfl, rfl, by go_num, HEA.out, HEC.out, B4⟩
            case measure => simp [intOf]; omega
        · obtain rfl : q = m := by omega
          have t4 : decide ((q : Int) < (q : Int)) = false := by simp
          obtain rfl : a = (P : Int) := by rw [ha, if_pos hP]
          obtain rfl : c = 1 := by rw [hc, if_pos hP]
          obtain ⟨rb, rob, epb, hrb, hcb⟩ := LB.a.cells (by omega)
          subst epb
          have cb1 := hcb k hlt
          rw [HSI.out] at cb1
          obtain ⟨w2, w3, _, _⟩ := box2 LB.box
          have tg : decide ((mt : Int) < (P : Int)) = false := by simp; omega
          clear hcb ha hc
          by_cases hf : f = k
          · have e := HPF.out.2 hf
            have HS := HSU.out
            rw [if_pos hf] at cb1 HS
            have HS' : Hid ((nwo fs (k + 1)).length = mt + 1) := HS
            subst e
            have wmt := wrY (z := (P : Int) + 1) (by omega) (by omega)
            have tpp : ((P : Int) == (P : Int)) = true := by simp
            clear hf HS
            go_wp2
            go_roundw
            case rel => exact ⟨k + 1, by omega, by go_num, by rw [HS'.out]; go_num, B2⟩
            case measure => simp [intOf]; omega
          · have e : P ≠ mt := fun e => hf (HPF.out.1 e)
            have HS := HSU.out
            rw [if_neg hf] at cb1 HS
            have HS' : Hid ((nwo fs (k + 1)).length = mt) := HS
            have tpp : ((P : Int) == (mt : Int)) = false := by simp; omega
            clear hf HS e
            go_wp2
            go_roundw
            case rel => exact ⟨k + 1, by omega, by go_num, by rw [HS'.out], B2⟩
            case measure => simp [intOf]; omega
    · obtain rfl : k = mb := by omega
      have t3 : decide ((k : Int) < (k : Int)) = false := by simp
      obtain ⟨LF, _, _, _⟩ := LO BV
      rw [← HLN.out]
      have tme : ((m : Int) == (m : Int)) = true := by simp
      go_wp2
      go_ret
      exact ⟨rfl, LF.bel⟩
end Go.Proofs.Ytlncjmeabonpfaa
