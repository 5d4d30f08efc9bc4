
/- DigitBinary: the law itself. -/

import Derived.Test.YtjnlkdeiccllgaaZY

namespace Go.Proofs.Ytjnlkdeiccllgaa

open Go.RowKit

set_option linter.unusedVariables false

set_option maxHeartbeats 2000000 in
set_option maxRecDepth 20000 in
theorem binary_no (so ao : Option Addr) (sn sc an ac : Nat) (sy ay : List Int) (w : World) (hs : Rd w so sn sy) (ls : Sl so sn sc) (ha : Rd w ao an ay) (la : Sl ao an ac) (my : mayA sy ay ≠ 0) :
    Calls Try.prog 6 #[.agg #[.slice so sn sc, .slice ao an ac]] w fun e w' => e = .returned (.bool true) ∧ Below w.heap.size w w' := by
  have k0 := box_below w (.cells #[.slice so sn sc, .slice ao an ac] 26)
  have cG := begun8_any (w.alloc (.cells #[.slice so sn sc, .slice ao an ac] 26))
  have BY0 : Bq (w.alloc (.cells #[.slice so sn sc, .slice ao an ac] 26)) w.heap.size so sn sc ao an ac sy ay := bq_new hs ha
  have cBB := fun V (B : Bq V w.heap.size so sn sc ao an ac sy ay) => monadZ_bad 40 so ao sn sc an ac sy ay V B.s B.a my
  go_enter Try.func6, Try.ntmps6
  go_wp2_with (first
    | (go_at_call 7; (with_reducible refine cG.mono ?_); rintro e w1 ⟨rfl, k1⟩; have K1 := k0.trans (k1.mono k0.size); have BY1 := BY0.below k1; obtain ⟨y0, y1⟩ := BY1.c; have cB := cBB w1 BY1)
    | (go_at_call 8; (with_reducible refine cB.mono ?_); rintro e w3 ⟨pD, nD, cD, qD, mD, dD, S3, A3, rfl, f3, g3, ⟨rfl, rfl⟩, k3⟩; have K3 := K1.trans (k3.mono K1.size); have BY3 := BY1.below k3; have kb3 := box_below w3 (.cells #[.slice pD nD cD, .slice qD mD dD] 26); have K4 := K3.trans (kb3.mono K3.size); have BY4 := BY3.below kb3; have BD4 := bq_new (c1 := cD) (c2 := dD) f3.rd g3.rd; have LD := g3.sl; obtain ⟨z0, z1⟩ := BY4.c; have cM := may8_no so ao sn sc an ac sy ay _ BY4.s BY4.a my)
    | (go_at_call 14; (with_reducible refine cM.mono ?_); rintro e w5 ⟨rfl, k5⟩; have K5 := K4.trans (k5.mono K4.size); have BY5 := BY4.below k5; have BD5 := BD4.below k5))
  go_ret
  exact ⟨rfl, K5⟩
set_option maxHeartbeats 2000000 in
set_option maxRecDepth 20000 in
theorem binary_bad (so ao : Option Addr) (sn sc an ac : Nat) (sy ay : List Int) (w : World) (hs : Rd w so sn sy) (ls : Sl so sn sc) (ha : Rd w ao an ay) (la : Sl ao an ac) (my : mayA sy ay = 0) (hF : mayF (sy ++ [((wdt ay an : Nat) : Int)]) = 17) :
    Calls Try.prog 6 #[.agg #[.slice so sn sc, .slice ao an ac]] w fun e w' => e = .returned (.bool true) ∧ Below w.heap.size w w' := by
  have k0 := box_below w (.cells #[.slice so sn sc, .slice ao an ac] 26)
  have cG := begun8_any (w.alloc (.cells #[.slice so sn sc, .slice ao an ac] 26))
  have BY0 : Bq (w.alloc (.cells #[.slice so sn sc, .slice ao an ac] 26)) w.heap.size so sn sc ao an ac sy ay := bq_new hs ha
  have cBB := fun V (B : Bq V w.heap.size so sn sc ao an ac sy ay) => bin_bad so ao sn sc an ac sy ay V B.s ls B.a my hF
  have HF : Hid (mayF (sy ++ [((wdt ay an : Nat) : Int)]) = 17) := hF
  clear hF
  go_enter Try.func6, Try.ntmps6
  go_wp2_with (first
    | (go_at_call 7; (with_reducible refine cG.mono ?_); rintro e w1 ⟨rfl, k1⟩; have K1 := k0.trans (k1.mono k0.size); have BY1 := BY0.below k1; obtain ⟨y0, y1⟩ := BY1.c; have cB := cBB w1 BY1)
    | (go_at_call 8; (with_reducible refine cB.mono ?_); rintro e w3 ⟨pD, nD, cD, qD, mD, dD, S3, A3, rfl, f3, g3, ⟨rfl, rfl⟩, k3⟩; have K3 := K1.trans (k3.mono K1.size); have BY3 := BY1.below k3; have kb3 := box_below w3 (.cells #[.slice pD nD cD, .slice qD mD dD] 26); have K4 := K3.trans (kb3.mono K3.size); have BY4 := BY3.below kb3; have BD4 := bq_new (c1 := cD) (c2 := dD) f3.rd g3.rd; have LD := g3.sl; obtain ⟨z0, z1⟩ := BY4.c; have cM := may8_yes so ao sn sc an ac sy ay _ BY4.s BY4.a my)
    | (go_at_call 14; (with_reducible refine cM.mono ?_); rintro e w5 ⟨rfl, k5⟩; have K5 := K4.trans (k5.mono K4.size); have BY5 := BY4.below k5; have BD5 := BD4.below k5))
  go_ret
  exact ⟨rfl, K5⟩
set_option maxHeartbeats 16000000 in
set_option maxRecDepth 20000 in
theorem binary_ok (so ao : Option Addr) (sn sc an ac : Nat) (sy ay : List Int) (w : World) (hs : Rd w so sn sy) (ls : Sl so sn sc) (ha : Rd w ao an ay) (la : Sl ao an ac) (my : mayA sy ay = 0) (hF : mayF (sy ++ [((wdt ay an : Nat) : Int)]) = 0) :
    Calls Try.prog 6 #[.agg #[.slice so sn sc, .slice ao an ac]] w fun e w' => e = .returned (.bool true) ∧ Below w.heap.size w w' := by
  have k0 := box_below w (.cells #[.slice so sn sc, .slice ao an ac] 26)
  have cG := begun8_any (w.alloc (.cells #[.slice so sn sc, .slice ao an ac] 26))
  have BY0 : Bq (w.alloc (.cells #[.slice so sn sc, .slice ao an ac] 26)) w.heap.size so sn sc ao an ac sy ay := bq_new hs ha
  have cBB := fun V (B : Bq V w.heap.size so sn sc ao an ac sy ay) => bin_ok so ao sn sc an ac sy ay V B.s ls B.a my hF
  have HL : Hid (ay.length = an) := ha.len
  have HLS : Hid (sy.length = sn) := hs.len
  have HNUM : Hid (∀ k, k < an → -9223372036854775808 ≤ nth ay k ∧ nth ay k ≤ 9223372036854775807) := ha.num
  have HALL : Hid (hif an (wdt ay an) ay an = true) := hif_all ha.len ha.num
  have W64 : wdt ay an ≤ 64 := wdt_le (fun j hj => HNUM.out j (by rw [← HL.out]; exact hj)) an (by rw [HL.out]; exact Nat.le_refl _)
  have HWL : Hid (∀ k, k < an → bdg (nth ay k) ≤ wdt ay an) := fun k hk => wdt_mono an (by rw [HL.out]; exact Nat.le_refl _) k hk
  have a4 : an ≤ 4096 := by rw [← ha.len]; exact atoms_le my
  have s8 : sn ≤ 8 := by have := (mayF_zero (mayA_0 my).1).2.1; rw [hs.len] at this; exact this
  have hp := pr_le hF
  have e1 := (mayA_0 my).2
  rw [ha.len] at e1
  rw [pr_snoc', ← e1, ← Int.natCast_mul] at hp
  have m4 : an * wdt ay an ≤ 4096 := by omega
  have HF : Hid (mayF (sy ++ [((wdt ay an : Nat) : Int)]) = 0) := hF
  clear hF hp e1
  generalize wdt ay an = W at *
  go_enter Try.func6, Try.ntmps6
  go_upto_region 8 with (first
    | (go_at_call 7; (with_reducible refine cG.mono ?_); rintro e w1 ⟨rfl, k1⟩; have K1 := k0.trans (k1.mono k0.size); have BY1 := BY0.below k1; obtain ⟨y0, y1⟩ := BY1.c; have cB := cBB w1 BY1)
    | (go_at_call 8; (with_reducible refine cB.mono ?_); rintro e w3 ⟨pD, nD, cD, qD, mD, dD, S3, A3, rfl, f3, g3, ⟨rfl, rfl⟩, k3⟩; have K3 := K1.trans (k3.mono K1.size); have BY3 := BY1.below k3; have kb3 := box_below w3 (.cells #[.slice pD nD cD, .slice qD mD dD] 26); have K4 := K3.trans (kb3.mono K3.size); have BY4 := BY3.below kb3; have BD4 := bq_new (c1 := cD) (c2 := dD) f3.rd g3.rd; have LD := g3.sl; obtain ⟨z0, z1⟩ := BY4.c; have cM := may8_yes so ao sn sc an ac sy ay _ BY4.s BY4.a my)
    | (go_at_call 14; (with_reducible refine cM.mono ?_); rintro e w5 ⟨rfl, k5⟩; have K5 := K4.trans (k5.mono K4.size); have BY5 := BY4.below k5; have BD5 := BD4.below k5))
  obtain rfl : nD = sn + 1 := by rw [← f3.rd.len, List.length_append, HLS.out]; rfl
  obtain rfl : mD = an * W := by rw [← g3.rd.len, binA_len, HL.out]
  have MD : Hid (an * W ≤ 4096) := m4
  have wm : IntKind.i64.wrap ((W : Int) * (an : Int)) = ((an * W : Nat) : Int) := by rw [Int.mul_comm, ← Int.natCast_mul]; exact wrZ (by omega) (by omega)
  have HROW : Hid (∀ k, k < an → ((binA ay W).drop (k * W)).take W = rowB (nth ay k) W) := fun k hk => binA_row ay W k (by rw [HL.out]; exact hk)
  have HCUT : Hid (∀ k, k < an → k * W + W ≤ an * W) := fun k hk => by
    have := Nat.mul_le_mul_right W (show k + 1 ≤ an by omega)
    rwa [Nat.succ_mul] at this
  obtain ⟨bS, offS, hso, hbS, hcS⟩ := BD5.s.cells (by omega)
  have cS0 := hcS sn (by omega)
  rw [nth_last sy _ HLS.out] at cS0
  subst hso
  generalize an * W = MW at *
  generalize w3.heap.size = gD at *
  clear hcS f3 g3 cBB cB cM cG k0 k1 k3 kb3 k5 K1 K3 K4 BY0 BY1 BY3 BY4 BD4 y0 y1 z0 z1 m4
  obtain ⟨y0, y1⟩ := BY5.c
  obtain ⟨d0, d1⟩ := BD5.c
  have t1 : ((sn : Int) + 1 != (sn : Int) + 1) = false := by simp
  have wsn : IntKind.i64.wrap ((sn : Int) + 1) = (sn : Int) + 1 := wrZ (by omega) (by omega)
  have bsn : (sn : Int) < (sn : Int) + 1 := by omega
  have t2 : decide ((W : Int) < 0) = false := by simp
  have t3 : decide ((64 : Int) < (W : Int)) = false := by simp; omega
  have t3b : decide (64 < W) = false := by simp; omega
  have t4 : (MW != MW) = false := by simp
  have t4b : ((MW : Int) != (MW : Int)) = false := by simp
  go_upto_region 13 with fail
  go_cut [6] from 61 to 68 (fun s V => s = .bool (hif an W ay 0) ∧ V = w5)
  case first =>
    have HI0 : Hid (hif an W ay 0 = ((an == 0) || (W == 1))) := rfl
    by_cases h0 : an = 0
    · have u1 : ((an : Int) == 0) = true := by simp; omega
      have u1b : (an == 0) = true := by simpa using h0
      have HU : Hid ((an == 0) = true) := u1b
      clear h0
      go_wp2
      go_meet
      case rel => exact ⟨by rw [HI0.out, HU.out]; rfl, (by first | trivial | rfl)⟩
    · have u1 : ((an : Int) == 0) = false := by simp; omega
      have u1b : (an == 0) = false := by simpa using h0
      have HU : Hid ((an == 0) = false) := u1b
      clear h0
      by_cases h1 : W = 1
      · have u2 : ((W : Int) == 1) = true := by simp; omega
        have u2b : (W == 1) = true := by simpa using h1
        have HU2 : Hid ((W == 1) = true) := u2b
        clear h1
        go_wp2
        go_meet
        case rel => exact ⟨by rw [HI0.out, HU.out, HU2.out]; rfl, (by first | trivial | rfl)⟩
      · have u2 : ((W : Int) == 1) = false := by simp; omega
        have u2b : (W == 1) = false := by simpa using h1
        have HU2 : Hid ((W == 1) = false) := u2b
        clear h1
        go_wp2
        go_meet
        case rel => exact ⟨by rw [HI0.out, HU.out, HU2.out]; rfl, (by first | trivial | rfl)⟩
  case rest =>
    obtain ⟨rfl, rfl⟩ := hcut
    have HSTEP : Hid (∀ k, hif an W ay (k + 1) = ((hif an W ay k || ((bitZ (nth ay k) (W - 1) == 1) && decide (0 ≤ nth ay k))) || decide (nth ay k < 0))) := fun k => rfl
    generalize hhf : hif an W ay = hf at *
    clear hhf
    obtain ⟨W5, hW5⟩ : ∃ V, V = wc := ⟨_, rfl⟩
    subst hW5
    clear y0 y1 d0 d1 cS0
    go_wp2
    go_loopw [6, 7] (fun s i V => ∃ k : Nat, k ≤ an ∧ i = .int .i64 (k : Nat) ∧ s = .bool (hf k) ∧ Below W5.heap.size W5 V) (fun _ i _ => an - (intOf i).toNat)
    case atStart => exact ⟨0, Nat.zero_le _, rfl, rfl, Below.refl _ _⟩
    case round =>
      obtain ⟨k, hk, rfl, rfl, B⟩ := hrel
      have BY6 := BY5.below B
      have BD6 := BD5.below B
      have K6 := K5.trans (B.mono K5.size)
      obtain ⟨y0, y1⟩ := BY6.c
      obtain ⟨d0, d1⟩ := BD6.c
      by_cases hlt : k < an
      · have t5 : decide ((k : Int) < (an : Int)) = true := by simp; omega
        have bk : (k : Int) < (an : Int) := by omega
        obtain ⟨bY, offY, hao, hbY, hcY⟩ := BY6.a.cells (by omega)
        have cY := hcY k hlt
        obtain ⟨n1, n2⟩ := HNUM.out k hlt
        obtain ⟨lo, hlo⟩ : ∃ lo : Nat, lo = k * W := ⟨_, rfl⟩
        obtain ⟨hi, hhi⟩ : ∃ hi : Nat, hi = lo + W := ⟨_, rfl⟩
        have hle : hi ≤ MW := by rw [hhi, hlo]; exact HCUT.out k hlt
        have mw4 := MD.out
        have m1 : (k : Int) * (W : Int) = (lo : Int) := by rw [hlo]; simp
        have m2 : (lo : Int) + (W : Int) = (hi : Int) := by omega
        have w1' := wrZ (z := (lo : Int)) (by omega) (by omega)
        have w2' := wrZ (z := (hi : Int)) (by omega) (by omega)
        have b1 : (lo : Int) ≤ (hi : Int) := by omega
        have dle := LD.le
        have b2 : (hi : Int) ≤ (dD : Int) := by omega
        obtain ⟨p2, hp2⟩ : ∃ p2, (if dD = lo then qD else Option.map (fun x => x.add lo) qD) = p2 := ⟨_, rfl⟩
        have hp3 : 1 ≤ W → Option.map (fun x => x.add lo) qD = p2 := fun h => by rw [← hp2, if_neg (by omega)]
        obtain ⟨r1, r2⟩ := BD6.a.sub LD hp2 (show lo ≤ hi by omega) hle
        rw [show hi - lo = W by omega, hlo, HROW.out k hlt] at r1
        have hdl : hi - lo = W := by omega
        rw [hdl] at r2
        have HST : Hid (_) := HSTEP.out k
        have HBB : Hid (0 ≤ nth ay k → nth ay k < 2 ^ W) := fun h => bdg_lt h n2 (HWL.out k hlt)
        have W1 : 1 ≤ W := by
          have := HWL.out k hlt
          have := (bdg_bd n1 n2).1
          omega
        have hp4 := hp3 W1
        clear hp3
        have mL : mayA [(W : Int)] (rowB (nth ay k) W) = 0 := mayA_list (by omega) (rowB_len _ _)
        have hrn : Hid (∀ j, j < W → nth (rowB (nth ay k) W) j = bitZ (nth ay k) (W - 1 - j)) := fun j hj => rowB_nth hj
        have cF : ∀ V o1 c1 o2 c2, Rd V (some o1) 1 [(W : Int)] → Rd V o2 W (rowB (nth ay k) W) → Sl o2 W c2 → Calls Try.prog 8 #[.int .i64 39, .agg #[.slice (some o1) 1 c1, .slice o2 W c2]] V fun e w' => AnsQ V (fun S A => S = [] ∧ A = fbA (fbR (takL [] [2] (rowB (nth ay k) W).length) (takL [(W : Int)] (rowB (nth ay k) W) 1) (fbN [] [(W : Int)] [2] (rowB (nth ay k) W)))) (fbE (fbR (takL [] [2] (rowB (nth ay k) W).length) (takL [(W : Int)] (rowB (nth ay k) W) 1) (fbN [] [(W : Int)] [2] (rowB (nth ay k) W)))) e w' := fun V o1 c1 o2 c2 h1 h2 h3 =>
          monadZ_39 (some o1) o2 1 c1 W c2 [(W : Int)] (rowB (nth ay k) W) _ _ V h1 h2 mL (by omega) (fun U j => fromBinary_any (some o1) o2 1 c1 W c2 [(W : Int)] (rowB (nth ay k) W) U (h1.below j (Nat.le_refl _)) (h2.below j (Nat.le_refl _)) h3 mL)
        have HFB : Hid (0 ≤ nth ay k → fbR (takL [] [2] (rowB (nth ay k) W).length) (takL [(W : Int)] (rowB (nth ay k) W) 1) (fbN [] [(W : Int)] [2] (rowB (nth ay k) W)) = some (nth ay k)) := fun h => row_all h n2 (HBB.out h)
        generalize fbR (takL [] [2] (rowB (nth ay k) W).length) (takL [(W : Int)] (rowB (nth ay k) W) 1) (fbN [] [(W : Int)] [2] (rowB (nth ay k) W)) = FB at *
        subst hao
        clear hcY hlo hhi mL HBB
        generalize rowB (nth ay k) W = RW at *
        generalize nth ay k = x at *
        go_wp2
        try simp only [hdl]
        go_loopw [9] (fun i V => ∃ j : Nat, j ≤ W ∧ i = .int .i64 (j : Nat) ∧ V = wr) (fun i _ => W - (intOf i).toNat)
        case atStart => exact ⟨0, Nat.zero_le _, rfl, rfl⟩
        case round =>
          obtain ⟨j, hj, rfl, hV⟩ := hrel
          subst hV
          by_cases hlt2 : j < W
          · have t6 : decide ((j : Int) < (W : Int)) = true := by simp; omega
            have bj : (j : Int) < (W : Int) := by omega
            obtain ⟨bR, offR, hpr, hbR, hcR⟩ := r1.cells (by omega)
            have c1 := hcR j hlt2
            rw [hrn.out j hlt2] at c1
            have hbt := bt_bd x (W - 1 - j)
            generalize bitZ x (W - 1 - j) = v at *
            subst hpr
            clear hcR
            by_cases hv : v = 0
            · have u3 : (v != 0) = false := by simpa using hv
              clear hv hbt
              go_wp2
              go_roundw
              case rel => exact ⟨j + 1, by omega, by go_num, (by first | trivial | rfl)⟩
              case measure => simp [intOf]; omega
            · have u3 : (v != 0) = true := by simpa using hv
              have u4 : (v != 1) = false := by simp; omega
              clear hv hbt
              go_wp2
              go_roundw
              case rel => exact ⟨j + 1, by omega, by go_num, (by first | trivial | rfl)⟩
              case measure => simp [intOf]; omega
          · obtain rfl : j = W := by omega
            have t6 : decide ((j : Int) < (j : Int)) = false := by simp
            obtain ⟨bR, offR, hpr, hbR, hcR⟩ := r1.cells (by omega)
            have c0 := hcR 0 (by omega)
            rw [hrn.out 0 (by omega), Nat.add_zero, Nat.sub_zero] at c0
            have bW : (0 : Int) < (j : Int) := by omega
            have bW2 : 0 < j := by omega
            subst hpr
            clear hcR
            generalize bitZ x (j - 1) = v at *
            go_upto_region 24 with fail
            go_cut [6] from 109 to 123 (fun s V => s = .bool (hf (k + 1)) ∧ V = wr)
            case first =>
              have HH : Hid (hf (k + 1) = ((hf k || ((v == 1) && decide (0 ≤ x))) || decide (x < 0))) := HST.out
              clear HST
              cases hb1 : hf k <;> cases hb2 : (v == 1) <;> cases hb3 : decide (x < 0)
              all_goals
                have hb4 : decide (0 ≤ x) = !(decide (x < 0)) := by by_cases q : x < 0 <;> simp [q] <;> omega
                rw [hb3] at hb4
                simp only [Bool.not_true, Bool.not_false] at hb4
                have HR : Hid (_) := HH.out
                have HG : Hid (hf k = _ ∧ (v == 1) = _ ∧ decide (x < 0) = _ ∧ decide (0 ≤ x) = _) := ⟨hb1, hb2, hb3, hb4⟩
                go_wp2
                go_meet
                case rel => exact ⟨by rw [HR.out, HG.out.1, HG.out.2.1, HG.out.2.2.1, HG.out.2.2.2]; rfl, (by first | trivial | rfl)⟩
            case rest =>
              obtain ⟨rfl, hV⟩ := hcut
              subst hV
              have cL := list8_any (some ⟨bR, offR, none⟩) j (dD - lo) RW wc r1 r2 (by omega)
              go_upto_region 26 with (first
                | (go_at_call 9; (with_reducible refine cL.mono ?_); rintro e v1 ⟨o1, c1, o2, c2, rfl, fs, fa, j1⟩)
                | (go_at_call 8; (with_reducible refine (cF v1 _ _ _ _ fs.rd fa.rd fa.sl).mono ?_); rintro e v2 ⟨pE, nE, cEe, qE, mE, dE, S8, A8, rfl, f8, g8, ⟨rfl, rfl⟩, j2⟩; have j12 := j1.trans (j2.mono j1.size); have kb8 := box_below v2 (.cells #[.slice pE nE cEe, .slice qE mE dE] 26); have j13 := j12.trans (kb8.mono j12.size); have BE := bq_new (c1 := cEe) (c2 := dE) f8.rd g8.rd))
              have B7 := B.trans (j13.mono B.size)
              generalize hW8 : v2.alloc (.cells #[.slice pE nE cEe, .slice qE mE dE] 26) = W8 at *
              generalize v2.heap.size = gE at *
              clear hW8 cL cF fs fa j1 j2 j12 kb8 j13 f8 g8 r1 r2 y0 y1 d0 d1 c0 cY BY6 BD6
              by_cases hx : x < 0
              · have u5 : decide (0 ≤ x) = false := by simp; omega
                clear hx
                go_wp2
                go_quiet (fail)
                go_wp2
                go_roundw
                case rel => exact ⟨k + 1, by omega, by go_num, rfl, B7.trans ((drewN_below W8 nq).mono B7.size)⟩
                case measure => simp [intOf]; omega
              · have u5 : decide (0 ≤ x) = true := by simp; omega
                have hfb := HFB.out (by omega)
                rw [hfb] at BE
                have e0 : fbE FB = 0 := by rw [hfb]; rfl
                have BEd := BE.below (Below.refl _ W8).drew
                have cS := fun V => scalar8_any x V n1 n2
                have cE := fun V (q : Below W8.drew.heap.size W8.drew V) o c (f : Rd V o 1 [x]) => eqT V pE qE none o nE cEe mE dE 0 0 1 c [] [x] (BEd.below q).s (BEd.below q).a (Rd.nil V) f
                rw [e0]
                clear hx hfb e0
                go_wp2
                go_region_held3 (fun V => V.cell? ⟨gE, 0, none⟩ = some (.slice pE nE cEe) ∧ V.cell? ⟨gE, 1, none⟩ = some (.slice qE mE dE)) (first | exact BEd.c | exact (BEd.below q1).c | exact (BEd.below q12).c)
                  (first
                    | (go_at_call 11; (with_reducible refine (cS W8.drew).mono ?_); rintro e u1 ⟨x1, x2, rfl, fx, q1⟩)
                    | (go_at_call 13; (with_reducible refine (cE u1 q1 _ _ fx.rd).mono ?_); rintro e u2 ⟨rfl, q2⟩; have q12 := q1.trans (q2.mono q1.size)))
                go_wp2
                go_roundw
                case rel => exact ⟨k + 1, by omega, by go_num, rfl, B7.trans (((Below.refl _ _).drew.trans q12).mono B7.size)⟩
                case measure => simp [intOf]; omega
      · obtain rfl : k = an := by omega
        have t5 : decide ((k : Int) < (k : Int)) = false := by simp
        rw [HALL.out]
        go_wp2
        go_ret
        exact ⟨rfl, K6⟩
theorem binary_any (so ao : Option Addr) (sn sc an ac : Nat) (sy ay : List Int) (w : World) (hs : Rd w so sn sy) (ls : Sl so sn sc) (ha : Rd w ao an ay) (la : Sl ao an ac) :
    Calls Try.prog 6 #[.agg #[.slice so sn sc, .slice ao an ac]] w fun e w' => e = .returned (.bool true) ∧ Below w.heap.size w w' := by
  by_cases my : mayA sy ay = 0
  · rcases bin_may (an := an) my (wdt ay an) with hF | hF
    · exact binary_ok so ao sn sc an ac sy ay w hs ls ha la my hF
    · exact binary_bad so ao sn sc an ac sy ay w hs ls ha la my hF
  · exact binary_no so ao sn sc an ac sy ay w hs ls ha la my
end Go.Proofs.Ytjnlkdeiccllgaa
