
/- ShowGrid: the walk where the rank is 2 or above. -/

import Derived.Test.YtcknmfhbjkadcaaGreatDoorGG

import Derived.BigQuiet

import Derived.Deep.RegionHeld3

import Derived.Deep.Cut

namespace Go.Proofs.YtcknmfhbjkadcaaGreatDoor

open Go.RowKit

set_option linter.unusedVariables false

def Pst (pos : Nat → Nat) (R nL r i : Nat) : Prop := (r = 0 ∧ i = 0) ∨ (1 ≤ r ∧ r ≤ R + 1 ∧ pos (r - 1) < i ∧ (r ≤ R → i ≤ pos r) ∧ (r = R + 1 → i = nL))
theorem pos_mono {LL : List (List UInt8)} {S' A : List Int} {R m : Nat} {pos : Nat → Nat} (G : Grd LL S' A R m pos) : ∀ d r, r + d = R → pos r ≤ pos R
  | 0, r, h => by rw [show r = R by omega]; exact Nat.le_refl _
  | d + 1, r, h => by
    have := pos_mono G d (r + 1) (by omega)
    have := G.succ r (by omega)
    omega
theorem pst_line {LL : List (List UInt8)} {S' A : List Int} {R m nL r i : Nat} {pos : Nat → Nat} (G : Grd LL S' A R m pos) (h : Pst pos R nL r i) (hi : i < nL) : r ≤ R ∧ (i = pos r ∨ (1 ≤ r ∧ pos (r - 1) < i ∧ i < pos r)) := by
  rcases h with ⟨rfl, rfl⟩ | ⟨h1, h2, h3, h4, h5⟩
  · exact ⟨Nat.zero_le _, .inl G.zero.symm⟩
  · by_cases e : r = R + 1
    · have := h5 e; omega
    · have hr : r ≤ R := by omega
      have := h4 hr
      refine ⟨hr, ?_⟩
      by_cases e2 : i = pos r
      · exact .inl e2
      · exact .inr ⟨h1, h3, by omega⟩
theorem pst_empty {pos : Nat → Nat} {R nL r i : Nat} (hr : r ≤ R) (h1 : 1 ≤ r) (h2 : pos (r - 1) < i) (h3 : i < pos r) : Pst pos R nL r (i + 1) := .inr ⟨h1, by omega, by omega, fun _ => by omega, fun e => by omega⟩
theorem pst_next {LL : List (List UInt8)} {S' A : List Int} {R m nL r i : Nat} {pos : Nat → Nat} (G : Grd LL S' A R m pos) (hL : nL = pos R + 1) (hr : r ≤ R) (hi : i = pos r) : Pst pos R nL (r + 1) (i + 1) := by
  refine .inr ⟨by omega, by omega, by rw [Nat.add_sub_cancel]; omega, fun h => ?_, fun e => ?_⟩
  · have := G.succ r (by omega); omega
  · have : r = R := by omega
    subst this; omega
theorem pst_end {LL : List (List UInt8)} {S' A : List Int} {R m nL r : Nat} {pos : Nat → Nat} (G : Grd LL S' A R m pos) (hL : nL = pos R + 1) (h : Pst pos R nL r nL) : r = R + 1 := by
  rcases h with ⟨h1, h2⟩ | ⟨h1, h2, h3, h4, h5⟩
  · omega
  · by_cases e : r = R + 1
    · exact e
    · have := h4 (by omega)
      have := pos_mono G (R - r) r (by omega)
      omega

set_option maxHeartbeats 8000000 in
set_option maxRecDepth 20000 in
theorem grid_walk (so ao : Option Addr) (k sn sc an ac m R nL : Nat) (S' A : List Int) (LL : List (List UInt8)) (pos : Nat → Nat) (tx x t : List UInt8) (w : World)
    (h1 : Rd w so sn (S' ++ [(m : Int)])) (h2 : Rd w ao an A) (T : Tg w) (HS : Hid (S'.length = k)) (HK : Hid (sn = k + 1)) (hsc : sn ≤ sc) (hk1 : 1 ≤ k) (hk8 : k ≤ 8) (hm0 : 0 < m) (hmb : m ≤ 4096) (hR : R < 4096) (HA : Hid (an = (R + 1) * m)) (ha4 : an ≤ 4096) (hn : 1 ≤ an)
    (HP : Hid (pr S' = ((R + 1 : Nat) : Int))) (HF : Hid (mayF S' = 0)) (HG : Hid (Grd LL S' A R m pos)) (hsh : (LL.getD 0 []).length < 4294967281) (HL : Hid (LL.length = nL)) (hL6 : nL ≤ 1000000) (hxl : x.length ≤ 100000)
    (TX : ∀ V, Gb w V so ao sn sc an ac (S' ++ [(m : Int)]) A → Calls Tryz.prog 5 #[.agg #[.slice so sn sc, .slice ao an ac]] V fun e w' => e = .returned (.tuple #[.string ⟨tx.toArray⟩, .int .i64 0]) ∧ Below V.heap.size V w')
    (MX : ∀ V, Gb w V so ao sn sc an ac (S' ++ [(m : Int)]) A → Calls Tryz.prog 6 #[.agg #[.slice so sn sc, .slice ao an ac]] V fun e w' => e = .returned (.int .i64 0) ∧ Below V.heap.size V w')
    (SX : ∀ V, Tg V → Calls Tryz.prog 9 #[.string ⟨tx.toArray⟩, .string ⟨#[10]⟩] V fun e w' => e = .returned (.slice (some ⟨V.heap.size, 0, none⟩) nL nL) ∧ Ln w' V.heap.size LL ∧ Below V.heap.size V w')
    (LX : ∀ V, Gb w V so ao sn sc an ac (S' ++ [(m : Int)]) A → Calls Tryz.prog 7 #[.slice ao an ac] V fun e w' => ∃ so sc bo bc, e = .returned (.tuple #[.agg #[.slice so 1 sc, .slice bo an bc], .int .i64 0]) ∧ Ft 3 w' V.heap.size so 1 sc [(an : Int)] ∧ Ft 2 w' V.heap.size bo an bc A ∧ apart so bo ∧ Below V.heap.size V w')
    (FX : ∀ V o1 c1 o2 c2, Tb V → Rd V o1 1 [(an : Int)] → Rd V o2 an A → Calls Tryz.prog 8 #[.agg #[.slice o1 1 c1, .slice o2 an c2]] V fun e w' => e = .returned (.tuple #[.string ⟨t.toArray⟩, .int .i64 0]) ∧ Below V.heap.size V w')
    (JX : ∀ V B o c, Wd V B o an c (wds A an) → Calls Tryz.prog 12 #[.slice o an c, .string ⟨#[32]⟩] V fun e w' => e = .returned (.string ⟨x.toArray⟩) ∧ Below V.heap.size V w')
    (ht : t = x ∨ t = 49 :: 32 :: 36 :: 32 :: x) :
    Calls Tryz.prog 3 #[.agg #[.slice so sn sc, .slice ao an ac]] w fun e w' => e = .returned (.bool true) ∧ Below w.heap.size w w' := by
  have X0 := gb_start w so ao sn sc an ac (S' ++ [(m : Int)]) A h1 h2
  have cG := begun10_any _ (T.t.below X0.bel)
  have t0 : ((an : Int) == 0) = false := by simp; omega
  have t0' : (an == 0) = false := by simp; omega
  have t1 : decide ((sn : Int) < 2) = false := by rw [HK.out]; simp; omega
  have t1' : decide (sn < 2) = false := by rw [HK.out]; simp; omega
  have wq : IntKind.i64.wrap ((an : Int) / (m : Int)) = ((R + 1 : Nat) : Int) := by rw [HA.out, ← Int.natCast_ediv, Nat.mul_div_cancel _ hm0]; exact wrapJ _ (by omega) (by omega)
  have hmz : ¬ (m : Int) = 0 := by omega
  have hmz' : ¬ m = 0 := by omega
  have hmz2 : ((m : Int) == 0) = false := by simp; omega
  go_enter Tryz.func3, Tryz.ntmps3
  go_upto_region 15 with (first
    | (go_at_call 4; (with_reducible refine cG.mono ?_); rintro e w1 ⟨rfl, k1⟩; have X1 := X0.below k1; obtain ⟨a0, a1, _, _⟩ := box2 X1.a; have cT := TX w1 X1)
    | (go_at_call 5; (with_reducible refine cT.mono ?_); rintro e w2 ⟨rfl, k2⟩; have X2 := X1.below k2; obtain ⟨b0, b1, _, _⟩ := box2 X2.a; have cM := MX w2 X2)
    | (go_at_call 6; (with_reducible refine cM.mono ?_); rintro e w3 ⟨rfl, k3⟩; have X3 := X2.below k3; obtain ⟨c0, c1, _, _⟩ := box2 X3.a; skip))
  clear cG cT cM X0 X1 X2 a0 a1 b0 b1 k1 k2 k3
  obtain ⟨b, off, hso, hb, hc⟩ := X3.r1.cells (by rw [HK.out]; omega)
  have cz : w3.cell? ⟨b, off + k, none⟩ = some (.int .i64 (m : Int)) := by
    have := hc k (by rw [HK.out]; omega)
    have e : nth (S' ++ [(m : Int)]) k = (m : Int) := by rw [← HS.out]; exact nth_last S' m
    rwa [e] at this
  have wk : IntKind.i64.wrap ((sn : Int) - 1) = (k : Int) := by rw [HK.out, show ((k + 1 : Nat) : Int) - 1 = (k : Int) by omega]; exact wrapJ _ (by omega) (by omega)
  have bk : (k : Int) < (sn : Int) := by rw [HK.out]; omega
  have bk' : k < sn := by rw [HK.out]; omega
  subst hso
  have ALLS : ∀ V, Below w3.heap.size w3 V → V.cell? ⟨w.heap.size, 0, none⟩ = some (.slice (some ⟨b, off, none⟩) sn sc) ∧ V.cell? ⟨w.heap.size, 1, none⟩ = some (.slice ao an ac) ∧ V.cell? ⟨b, off + k, none⟩ = some (.int .i64 (m : Int)) ∧ Below w3.heap.size w3 V := fun V j => ⟨(j.cell (cell_lt c0)).trans c0, (j.cell (cell_lt c1)).trans c1, (j.cell (cell_lt cz)).trans cz, j⟩
  go_region_held3 (fun V => V.cell? ⟨w.heap.size, 0, none⟩ = some (.slice (some ⟨b, off, none⟩) sn sc) ∧ V.cell? ⟨w.heap.size, 1, none⟩ = some (.slice ao an ac) ∧ V.cell? ⟨b, off + k, none⟩ = some (.int .i64 (m : Int)) ∧ Below w3.heap.size w3 V) (first | exact ALLS _ (by assumption) | exact ALLS _ (Below.refl _ _).drew) (fail)
  have X4 := X3.below (Below.refl _ w3).drew
  have cS := SX w3.drew (T.below X4.bel)
  have hg : w3.drew.heap.size = w3.heap.size := rfl
  rw [hg] at cS
  have rS : ∀ V, Gb w V (some ⟨b, off, none⟩) ao sn sc an ac (S' ++ [(m : Int)]) A → Rd V (some ⟨b, off, none⟩) k S' := fun V X => by
    have := X.r1.take k (by omega)
    rwa [List.take_left' HS.out] at this
  clear ALLS c0 c1 cz X3 hc hb SX MX TX wq hg
  go_wp2_with (go_at_call 9; (with_reducible refine cS.mono ?_); rintro e W5 ⟨rfl, L5, k5⟩; have X5 := X4.below k5)
  clear X4 k5 cS
  generalize w3.heap.size = g at *
  go_loopw [12, 13, 14] (fun a b c V => ∃ (r i : Nat) (wo : Option Addr) (wn wc : Nat), i ≤ nL ∧ a = .int .i64 (r : Nat) ∧ b = .slice wo wn wc ∧ c = .int .i64 (i : Nat) ∧ Hid (wn = r * m) ∧ Hid (Pst pos R nL r i) ∧ Wd V W5.heap.size wo wn wc (wds A wn) ∧ Below W5.heap.size W5 V) (fun _ _ c _ => nL - (intOf c).toNat)
  case atStart => exact ⟨0, 0, none, 0, 0, Nat.zero_le _, rfl, rfl, rfl, (Nat.zero_mul m).symm, .inl ⟨rfl, rfl⟩, wd_nil _ _, Below.refl _ _⟩
  case round =>
    obtain ⟨r, i, wo, wn, wc, hi, rfl, rfl, rfl, HN, HQ, WD, bel⟩ := hrel
    have X := X5.below bel
    have LN := L5.below bel
    obtain ⟨c0, c1, _, _⟩ := box2 X.a
    by_cases hlt : i < nL
    · have bi : (i : Int) < (nL : Int) := by omega
      obtain ⟨hr, hcase⟩ := pst_line HG.out HQ.out hlt
      have ci := LN.cell (i := i) (by rw [HL.out]; exact hlt)
      rcases hcase with he | ⟨hr1, hp1, hp2⟩
      · have HE : Hid (i = pos r) := he
        have PN : Hid (Pst pos R nL (r + 1) (i + 1)) := pst_next HG.out (by rw [← HL.out]; exact HG.out.len) hr he
        have ne := HG.out.ne r hr
        have sm := HG.out.same r hr
        have wd := HG.out.words r hr
        have asc := HG.out.asc r hr
        rw [← he] at ne sm wd asc
        have cz := LN.cell (i := 0) (by rw [HL.out]; omega)
        obtain ⟨fs, hfsd⟩ : ∃ fs, fs = (List.range m).map fun c => wrt (nth A (r * m + c)) := ⟨_, rfl⟩
        have hfs : fs.length = m := by rw [hfsd]; simp
        have HW : Hid (wds A wn ++ fs = wds A (wn + m)) := by
          show _ = _
          rw [hfsd, HN.out, wds_row, Nat.add_mul, Nat.one_mul]
        rw [← hfsd] at wd
        have hnm : wn + m ≤ 100000 := by
          have : (r + 1) * m ≤ (R + 1) * m := Nat.mul_le_mul_right _ (by omega)
          have e := HA.out
          rw [Nat.add_mul, Nat.one_mul, ← HN.out] at this
          omega
        have hll : (LL.getD i []).length < 4294967281 := by rw [sm]; exact hsh
        have cF := fun V (Tv : Tg V) => fields_any (LL.getD i []) V hll asc Tv
        rw [wd, hfs] at cF
        clear wd asc hll hfsd he
        by_cases hr0 : r = 0
        · subst hr0
          obtain rfl : i = 0 := by have := HE.out; rw [HG.out.zero] at this; exact this
          clear ci sm
          generalize LL.getD 0 [] = l at *
          have n1 : l.isEmpty = false := by cases l with | nil => exact absurd rfl ne | cons _ _ => rfl
          go_wp2
          go_quiet (fail)
          have Y := X.below (drewN_belowS _ nq)
          have WDq := WD.below (drewN_belowS _ nq)
          have cW := cF _ (T.below Y.bel)
          go_wp2_with (first
            | (go_at_call 11; (with_reducible refine cW.mono ?_); rintro e V6 ⟨rfl, L6, k6⟩)
            | (at_builtin; refine wpList_words rfl _ _ rfl W5.heap.size _ wo wn wc m (wds A wn) fs rfl rfl (WDq.below k6) L6 hfs hnm (Nat.le_trans (Nat.le_trans bel.size (drewN_belowS wr nq).size) k6.size) ?_; intro co cc V7 WD7 b7))
          go_roundw
          case rel =>
            refine ⟨0 + 1, 0 + 1, co, wn + m, cc, by omega, by go_num, rfl, by go_num, ?_, PN, ?_, ?_⟩
            · show wn + m = (0 + 1) * m; rw [HN.out, Nat.add_mul, Nat.one_mul]
            · rw [← HW.out]; exact WD7
            · exact ((bel.trans ((drewN_belowS _ nq).mono bel.size)).trans (k6.mono (Nat.le_trans bel.size (drewN_belowS _ nq).size))).trans b7
          case measure => simp [intOf]; omega
        · have hr1 : 1 ≤ r := by omega
          have t3 : decide (0 < (r : Int)) = true := by simp; omega
          have t3' : decide (0 < r) = true := by simp; omega
          have rp : (r : Int) < pr S' := by rw [HP.out]; omega
          obtain ⟨tz, htz⟩ : ∃ tz, tz = trz (digs S' (r : Int)) := ⟨_, rfl⟩
          obtain ⟨p, hp⟩ : ∃ p, p = pos (r - 1) := ⟨_, rfl⟩
          have sc1 := HG.out.succ (r - 1) (by omega)
          rw [Nat.sub_add_cancel hr1, ← htz, ← HE.out, ← hp] at sc1
          have HI : Hid (i = p + tz + 1) := sc1
          have HGP : Hid (∀ j, p < j → j < i → LL.getD j [] = []) := fun j j1 j2 => HG.out.gap (r - 1) (by omega) j (by rw [← hp]; exact j1) (by rw [Nat.sub_add_cancel hr1, ← HE.out]; exact j2)
          have pne := HG.out.ne (r - 1) (by omega)
          rw [← hp] at pne
          have tzk : tz < k := by have := trz_lt HF.out rp (by omega); rw [HS.out, ← htz] at this; exact this
          have HZ : Hid (∀ t, t < tz → nth (digs S' (r : Int)) (k - 1 - t) = 0 ∧ 0 < k - 1 - t) := fun t h => by
            have := anew_zero HF.out rp (by omega) (htz ▸ h); rw [HS.out] at this; exact this
          have HX : Hid (nth (digs S' (r : Int)) (k - 1 - tz) ≠ 0) := by
            have := anew_stop HF.out rp (by omega); rw [HS.out, ← htz] at this; exact this
          have dl : (digs S' (r : Int)).length = k := by rw [digs_len]; exact HS.out
          have cA := at_any (some ⟨b, off, none⟩) k sc S' (r : Int) wr (rS wr X) (by omega) (by omega)
          rw [(at_in HF.out (by omega : (0 : Int) ≤ (r : Int)) rp).1, (at_in HF.out (by omega : (0 : Int) ≤ (r : Int)) rp).2] at cA
          generalize digs S' (r : Int) = D at *
          obtain ⟨l, hl⟩ : ∃ l, l = LL.getD i [] := ⟨_, rfl⟩
          obtain ⟨l0, hl0⟩ : ∃ l0, l0 = LL.getD 0 [] := ⟨_, rfl⟩
          obtain ⟨lp, hlp⟩ : ∃ lp, lp = LL.getD p [] := ⟨_, rfl⟩
          rw [← hl] at ne ci cF sm
          rw [← hl0] at sm cz
          rw [← hlp] at pne
          have n1 : l.isEmpty = false := by cases l with | nil => exact absurd rfl ne | cons _ _ => rfl
          have n2 : lp.isEmpty = false := by cases lp with | nil => exact absurd rfl pne | cons _ _ => rfl
          have HC : Hid (∀ V, Ln V g LL → V.cell? ⟨g, i, none⟩ = some (.string ⟨l.toArray⟩) ∧ V.cell? ⟨g, 0, none⟩ = some (.string ⟨l0.toArray⟩) ∧ V.cell? ⟨g, p, none⟩ = some (.string ⟨lp.toArray⟩)) := fun V L => ⟨by rw [hl]; exact L.cell (by rw [HL.out]; omega), by rw [hl0]; exact L.cell (by rw [HL.out]; omega), by rw [hlp]; exact L.cell (by rw [HL.out]; omega)⟩
          have wk2 : IntKind.i64.wrap ((sn : Int) - 2) = ((k - 1 : Nat) : Int) := by rw [HK.out, show ((k + 1 : Nat) : Int) - 2 = ((k - 1 : Nat) : Int) by omega]; exact wrapJ _ (by omega) (by omega)
          have bks : (k : Int) ≤ (sc : Int) := by omega
          have bks' : k ≤ sc := by omega
          clear hl hl0 hlp ne pne htz hp sc1 cz rp
          obtain ⟨W6, hW6⟩ : ∃ V, V = wr := ⟨_, rfl⟩
          subst hW6
          go_wp2_with (go_at_call 10; (with_reducible refine cA.mono ?_); rintro e V1 ⟨co, kk, cc1, rfl, F1, j1⟩; obtain rfl : k = kk := (by have := F1.rd.len; omega); obtain ⟨bb, o2, rfl, hbb, hcD⟩ := F1.rd.cells hk1)
          have HD : Hid (∀ j, j < k → V1.cell? ⟨bb, o2 + j, none⟩ = some (.int .i64 (nth D j))) := hcD
          clear hcD ci c0 c1 cA
          have LN1 := LN.below j1
          have X1 := X.below j1
          have WD1 := WD.below j1
          have bel1 := bel.trans (j1.mono bel.size)
          clear LN X WD bel F1
          go_loopw [17, 18] (fun a b V => ∃ t jn : Nat, t ≤ tz ∧ Hid (jn + t + 1 = k) ∧ a = .int .i64 (t : Nat) ∧ b = .int .i64 (jn : Nat) ∧ V = V1) (fun a _ _ => tz - (intOf a).toNat)
          case atStart => exact ⟨0, k - 1, Nat.zero_le _, (show k - 1 + 0 + 1 = k by omega), rfl, rfl, rfl⟩
          case round =>
            obtain ⟨t, jn, ht, HJ, rfl, rfl, hV⟩ := hrel
            subst hV
            have ej : k - 1 - t = jn := by have := HJ.out; omega
            have jk : jn < k := by have := HJ.out; omega
            have bj : (jn : Int) < (k : Int) := by omega
            have cj := HD.out jn jk
            by_cases htl : t < tz
            · have zz := HZ.out t htl
              rw [ej] at zz
              rw [zz.1] at cj
              obtain ⟨q, hq⟩ : ∃ q, q + 1 = jn := ⟨jn - 1, by omega⟩
              have t5 : decide (0 < (jn : Int)) = true := by simp; omega
              have t5' : decide (0 < jn) = true := by simp; omega
              have wj : IntKind.i64.wrap ((jn : Int) - 1) = (q : Int) := by rw [show (jn : Int) - 1 = (q : Int) by omega]; exact wrapJ _ (by omega) (by omega)
              have HQq : Hid (q + 1 = jn) := hq
              clear hq zz ej
              go_wp2
              go_roundw
              case rel => exact ⟨t + 1, q, by omega, (show q + (t + 1) + 1 = k by have := HJ.out; have := HQq.out; omega), by go_num, rfl, (by first | rfl | trivial)⟩
              case measure => simp [intOf]; omega
            · obtain rfl : t = tz := by omega
              have X := X1
              have WD := WD1
              have bel := bel1
              obtain ⟨ci, cz, cp⟩ := HC.out wr LN1
              obtain ⟨c0, c1, _, _⟩ := box2 X.a
              have zx := HX.out
              rw [ej] at zx
              generalize nth D jn = zj at cj zx
              have t6 : (zj == 0) = false := by simpa using zx
              obtain ⟨p1, hp1⟩ : ∃ p1, p1 = p + 1 := ⟨_, rfl⟩
              have hI := HI.out
              have wi1 : IntKind.i64.wrap ((i : Int) - (t : Int)) = (p1 : Int) := by rw [show (i : Int) - (t : Int) = (p1 : Int) by omega]; exact wrapJ _ (by omega) (by omega)
              have wp1 : IntKind.i64.wrap ((p1 : Int) - 1) = (p : Int) := by rw [show (p1 : Int) - 1 = (p : Int) by omega]; exact wrapJ _ (by omega) (by omega)
              have ti : decide ((i : Int) < (t : Int) + 1) = false := by simp; omega
              have ti' : decide (i < t + 1) = false := by simp; omega
              have ti2 : ¬ i < t + 1 := by omega
              have bp : (p : Int) < (nL : Int) := by omega
              have bp' : p < nL := by omega
              have b0 : (0 : Int) < (nL : Int) := by omega
              have hi1 : ∃ i1, i1 + 1 = i := ⟨i - 1, by omega⟩
              obtain ⟨i1, hi1⟩ := hi1
              have ce : 0 < t → wr.cell? ⟨g, i1, none⟩ = some (.string ⟨#[]⟩) := fun h => by
                have := LN1.cell (i := i1) (by rw [HL.out]; omega)
                rw [HGP.out i1 (by omega) (by omega)] at this
                exact this
              have wi2 : IntKind.i64.wrap ((i : Int) - 1) = (i1 : Int) := by rw [show (i : Int) - 1 = (i1 : Int) by omega]; exact wrapJ _ (by omega) (by omega)
              have bi1 : (i1 : Int) < (nL : Int) := by omega
              clear hp1 hI hi1 zx ej htl X1 WD1 bel1 LN1
              rcases Nat.eq_zero_or_pos jn with hj0 | hj0
              · have t5 : decide (0 < (jn : Int)) = false := by simp; omega
                have t5' : decide (0 < jn) = false := by simp; omega
                clear hj0
                rcases Nat.eq_zero_or_pos t with ht0 | ht0
                · have t7 : decide (0 < (t : Int)) = false := by simp; omega
                  have t7' : decide (0 < t) = false := by simp; omega
                  clear ht0 ce
                  go_wp2
                  go_quiet (fail)
                  have Y := X.below (drewN_belowS _ nq)
                  have WDq := WD.below (drewN_belowS _ nq)
                  have cW := cF _ (T.below Y.bel)
                  go_wp2_with (first
                    | (go_at_call 11; (with_reducible refine cW.mono ?_); rintro e V6 ⟨rfl, L6, k6⟩)
                    | (at_builtin; refine wpList_words rfl _ _ rfl W5.heap.size _ wo wn wc m (wds A wn) fs rfl rfl (WDq.below k6) L6 hfs hnm (Nat.le_trans (Nat.le_trans bel.size (drewN_belowS wr nq).size) k6.size) ?_; intro co cc V7 WD7 b7))
                  go_roundw
                  case rel =>
                    refine ⟨r + 1, i + 1, co, wn + m, cc, by omega, by go_num, rfl, by go_num, ?_, PN, ?_, ?_⟩
                    · show wn + m = (r + 1) * m; rw [HN.out, Nat.add_mul, Nat.one_mul]
                    · rw [← HW.out]; exact WD7
                    · exact ((bel.trans ((drewN_belowS _ nq).mono bel.size)).trans (k6.mono (Nat.le_trans bel.size (drewN_belowS _ nq).size))).trans b7
                  case measure => simp [intOf]; omega
                · have t7 : decide (0 < (t : Int)) = true := by simp; omega
                  have t7' : decide (0 < t) = true := by simp; omega
                  have ce1 := ce ht0
                  clear ht0 ce
                  go_wp2
                  go_quiet (fail)
                  have Y := X.below (drewN_belowS _ nq)
                  have WDq := WD.below (drewN_belowS _ nq)
                  have cW := cF _ (T.below Y.bel)
                  go_wp2_with (first
                    | (go_at_call 11; (with_reducible refine cW.mono ?_); rintro e V6 ⟨rfl, L6, k6⟩)
                    | (at_builtin; refine wpList_words rfl _ _ rfl W5.heap.size _ wo wn wc m (wds A wn) fs rfl rfl (WDq.below k6) L6 hfs hnm (Nat.le_trans (Nat.le_trans bel.size (drewN_belowS wr nq).size) k6.size) ?_; intro co cc V7 WD7 b7))
                  go_roundw
                  case rel =>
                    refine ⟨r + 1, i + 1, co, wn + m, cc, by omega, by go_num, rfl, by go_num, ?_, PN, ?_, ?_⟩
                    · show wn + m = (r + 1) * m; rw [HN.out, Nat.add_mul, Nat.one_mul]
                    · rw [← HW.out]; exact WD7
                    · exact ((bel.trans ((drewN_belowS _ nq).mono bel.size)).trans (k6.mono (Nat.le_trans bel.size (drewN_belowS _ nq).size))).trans b7
                  case measure => simp [intOf]; omega
              · have t5 : decide (0 < (jn : Int)) = true := by simp; omega
                have t5' : decide (0 < jn) = true := by simp; omega
                clear hj0
                rcases Nat.eq_zero_or_pos t with ht0 | ht0
                · have t7 : decide (0 < (t : Int)) = false := by simp; omega
                  have t7' : decide (0 < t) = false := by simp; omega
                  clear ht0 ce
                  go_wp2
                  go_quiet (fail)
                  have Y := X.below (drewN_belowS _ nq)
                  have WDq := WD.below (drewN_belowS _ nq)
                  have cW := cF _ (T.below Y.bel)
                  go_wp2_with (first
                    | (go_at_call 11; (with_reducible refine cW.mono ?_); rintro e V6 ⟨rfl, L6, k6⟩)
                    | (at_builtin; refine wpList_words rfl _ _ rfl W5.heap.size _ wo wn wc m (wds A wn) fs rfl rfl (WDq.below k6) L6 hfs hnm (Nat.le_trans (Nat.le_trans bel.size (drewN_belowS wr nq).size) k6.size) ?_; intro co cc V7 WD7 b7))
                  go_roundw
                  case rel =>
                    refine ⟨r + 1, i + 1, co, wn + m, cc, by omega, by go_num, rfl, by go_num, ?_, PN, ?_, ?_⟩
                    · show wn + m = (r + 1) * m; rw [HN.out, Nat.add_mul, Nat.one_mul]
                    · rw [← HW.out]; exact WD7
                    · exact ((bel.trans ((drewN_belowS _ nq).mono bel.size)).trans (k6.mono (Nat.le_trans bel.size (drewN_belowS _ nq).size))).trans b7
                  case measure => simp [intOf]; omega
                · have t7 : decide (0 < (t : Int)) = true := by simp; omega
                  have t7' : decide (0 < t) = true := by simp; omega
                  have ce1 := ce ht0
                  clear ht0 ce
                  go_wp2
                  go_quiet (fail)
                  have Y := X.below (drewN_belowS _ nq)
                  have WDq := WD.below (drewN_belowS _ nq)
                  have cW := cF _ (T.below Y.bel)
                  go_wp2_with (first
                    | (go_at_call 11; (with_reducible refine cW.mono ?_); rintro e V6 ⟨rfl, L6, k6⟩)
                    | (at_builtin; refine wpList_words rfl _ _ rfl W5.heap.size _ wo wn wc m (wds A wn) fs rfl rfl (WDq.below k6) L6 hfs hnm (Nat.le_trans (Nat.le_trans bel.size (drewN_belowS wr nq).size) k6.size) ?_; intro co cc V7 WD7 b7))
                  go_roundw
                  case rel =>
                    refine ⟨r + 1, i + 1, co, wn + m, cc, by omega, by go_num, rfl, by go_num, ?_, PN, ?_, ?_⟩
                    · show wn + m = (r + 1) * m; rw [HN.out, Nat.add_mul, Nat.one_mul]
                    · rw [← HW.out]; exact WD7
                    · exact ((bel.trans ((drewN_belowS _ nq).mono bel.size)).trans (k6.mono (Nat.le_trans bel.size (drewN_belowS _ nq).size))).trans b7
                  case measure => simp [intOf]; omega
      · rw [HG.out.gap (r - 1) (by omega) i hp1 (by rw [Nat.sub_add_cancel hr1]; exact hp2)] at ci
        go_wp2
        go_roundw
        case rel => exact ⟨r, i + 1, wo, wn, wc, by omega, rfl, rfl, by go_num, HN, pst_empty hr hr1 hp1 hp2, WD, bel⟩
        case measure => simp [intOf]; omega
    · obtain rfl : i = nL := by omega
      have er := pst_end HG.out (by rw [← HL.out]; exact HG.out.len) HQ.out
      subst er
      obtain rfl : an = wn := by rw [HN.out, HA.out]
      have tl : decide ((i : Int) < (i : Int)) = false := by simp
      clear hlt hi HQ
      have q3 : ¬ 9223372036854775807 < 4 + x.length := by omega
      have q2 := bs_pre x
      have qn : ¬ x = 49 :: 32 :: 36 :: 32 :: x := fun e => by have := congrArg List.length e; simp only [List.length_cons] at this; omega
      rcases ht with rfl | rfl
      · clear q2 q3 qn
        go_wp2_with (first
          | (go_at_call 7; (with_reducible refine (LX wr X).mono ?_); rintro e V8 ⟨o1, e1, o2, e2, rfl, f1, f2, -, k8⟩; have X8 := X.below k8; have kb := box_below V8 (.cells #[.slice o1 1 e1, .slice o2 an e2] 25); have X9 := X8.below kb; obtain ⟨d0, d1, _, _⟩ := box2 X9.a; obtain ⟨u0, u1, _, _⟩ := box2 (allocNew V8 (.cells #[.slice o1 1 e1, .slice o2 an e2] 25)); have cF9 := FX _ o1 e1 o2 e2 (T.t.below X9.bel) (f1.rd.below kb (Nat.le_refl _)) (f2.rd.below kb (Nat.le_refl _)); have WD9 := (WD.below k8).below kb)
          | (go_at_call 8; (with_reducible refine cF9.mono ?_); rintro e V10 ⟨rfl, k10⟩; have X10 := X9.below k10; have WD10 := WD9.below k10; have cJ := JX V10 _ wo wc WD10)
          | (go_at_call 12; (with_reducible refine cJ.mono ?_); rintro e V11 ⟨rfl, k11⟩; have X11 := X10.below k11; obtain ⟨p0, p1, _, _⟩ := box2 X11.a; skip))
        all_goals go_ret
        all_goals exact ⟨rfl, X11.bel⟩
  
      · go_wp2_with (first
          | (go_at_call 7; (with_reducible refine (LX wr X).mono ?_); rintro e V8 ⟨o1, e1, o2, e2, rfl, f1, f2, -, k8⟩; have X8 := X.below k8; have kb := box_below V8 (.cells #[.slice o1 1 e1, .slice o2 an e2] 25); have X9 := X8.below kb; obtain ⟨d0, d1, _, _⟩ := box2 X9.a; obtain ⟨u0, u1, _, _⟩ := box2 (allocNew V8 (.cells #[.slice o1 1 e1, .slice o2 an e2] 25)); have cF9 := FX _ o1 e1 o2 e2 (T.t.below X9.bel) (f1.rd.below kb (Nat.le_refl _)) (f2.rd.below kb (Nat.le_refl _)); have WD9 := (WD.below k8).below kb)
          | (go_at_call 8; (with_reducible refine cF9.mono ?_); rintro e V10 ⟨rfl, k10⟩; have X10 := X9.below k10; have WD10 := WD9.below k10; have cJ := JX V10 _ wo wc WD10)
          | (go_at_call 12; (with_reducible refine cJ.mono ?_); rintro e V11 ⟨rfl, k11⟩; have X11 := X10.below k11; obtain ⟨p0, p1, _, _⟩ := box2 X11.a; skip))
        all_goals go_ret
        all_goals exact ⟨rfl, X11.bel⟩
end Go.Proofs.YtcknmfhbjkadcaaGreatDoor
