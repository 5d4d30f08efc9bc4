
/- Contract of inColumns, the walk; Text. -/

import Derived.Test.YtppcfpiihkaopaaGreatDoorVQ

import Derived.Sort.CutIn

namespace Go.Proofs.YtppcfpiihkaopaaGreatDoor

open Go.RowKit Go.Shelf

attribute [local go_sem] Oper.semAt_some

set_option linter.unusedVariables false

theorem wrapJ (z : Int) (h0 : -9223372036854775808 ≤ z) (h1 : z ≤ 9223372036854775807) : IntKind.i64.wrap z = z := by rw [IntKind.wrap_i64]; omega
theorem Fr.ftS {w : World} {B : Nat} {ao : Option Addr} {n cap : Nat} {zs : List Int} (h : Fr w B ao n cap zs) : Ft 3 w B ao n cap zs := ⟨h.rd, h.own⟩
theorem all_zero {D : List Int} (h : D.length ≤ trz D) : ∀ j, j < D.length → nth D j = 0 := by
  intro j hj
  have := while_len (l := D.reverse) (trz D) (Nat.le_refl _) (D.length - 1 - j) (by simp; omega) (by omega)
  rw [rev_at (by omega)] at this
  rwa [show D.length - 1 - (D.length - 1 - j) = j by omega] at this
theorem trz_lt {S : List Int} {k : Nat} (hm : mayF S = 0) (hk : (k : Int) < pr S) (h0 : 0 < k) : trz (digs S k) < S.length := by
  rcases Nat.lt_or_ge (trz (digs S k)) S.length with h | h
  · exact h
  · exfalso
    have hz := all_zero (D := digs S k) (by rw [digs_len]; exact h)
    have e := plc_digs (allPos_of hm (Int.natCast_nonneg k) hk) (Int.natCast_nonneg k) hk S.length (Nat.le_refl _)
    have z : ∀ j, j ≤ S.length → plc S (digs S k) j = 0 := by
      intro j
      induction j with
      | zero => intro _; rfl
      | succ j ih =>
        intro hj
        show plc S (digs S k) j * nth S j + nth (digs S k) j = 0
        rw [ih (by omega), hz j (by rw [digs_len]; omega)]; simp
    rw [z _ (Nat.le_refl _), List.drop_length] at e
    have : pr ([] : List Int) = 1 := rfl
    rw [this] at e
    omega
theorem nth_setS (l : List Int) (i c : Nat) (v : Int) : nth (l.set i v) c = if i = c ∧ c < l.length then v else nth l c := by
  unfold nth
  rw [List.getD_eq_getElem?_getD, List.getD_eq_getElem?_getD, List.getElem?_set]
  by_cases h1 : i = c
  · subst h1
    by_cases h2 : i < l.length
    · simp [h2]
    · simp [h2]
  · simp [h1]
theorem widK_mono (S A : List Int) (m : Nat) (c k : Nat) : nth (widK S A m k) c ≤ nth (widK S A m (k + 1)) c := by
  show _ ≤ nth ((widK S A m k).set (colN S k) (max (nth (widK S A m k) (colN S k)) ((wrt (nth A k)).length : Int))) c
  rw [nth_setS]
  split
  · rename_i h; rw [h.1]; omega
  · omega
theorem widK_le (S A : List Int) (m : Nat) (c : Nat) {k j : Nat} (h : k ≤ j) : nth (widK S A m k) c ≤ nth (widK S A m j) c := by
  induction h with
  | refl => exact Int.le_refl _
  | step _ ih => exact Int.le_trans ih (widK_mono S A m c _)
theorem widK_has (S A : List Int) (m an k : Nat) (hk : k < an) (hc : colN S k < m) : ((wrt (nth A k)).length : Int) ≤ nth (widK S A m an) (colN S k) := by
  refine Int.le_trans ?_ (widK_le S A m (colN S k) (show k + 1 ≤ an from hk))
  show _ ≤ nth ((widK S A m k).set (colN S k) (max (nth (widK S A m k) (colN S k)) ((wrt (nth A k)).length : Int))) (colN S k)
  rw [nth_setS, if_pos ⟨rfl, by rw [widK_len]; exact hc⟩]; omega
theorem btw_len (D : List Int) : (btw D).length ≤ D.length + 1 := by
  unfold btw
  have : trz D ≤ D.length := by unfold trz; have := (List.takeWhile_prefix (fun x : Int => x == 0) (l := D.reverse)).length_le; simpa using this
  split <;> simp; omega
theorem pceT_len (S A : List Int) (m an k : Nat) (h : In64 A) (h8 : S.length ≤ 8) (hz : -9223372036854775808 ≤ nth A k ∧ nth A k ≤ 9223372036854775807) : (pceT S A m an k).length ≤ 51 := by
  unfold pceT
  have h1 := widK_nn S A m h an (colN S k)
  have h2 := wr_len (nth A k) hz.1 hz.2
  have h3 := btw_len (digs S k)
  rw [digs_len] at h3
  split <;> simp only [List.length_append, List.length_replicate, List.length_nil] <;> omega
theorem txK_len (S A : List Int) (m an : Nat) (h : In64 A) (h8 : S.length ≤ 8) : ∀ k, (txK S A m an k).length ≤ 51 * k
  | 0 => by simp [txK]
  | k + 1 => by
    have ih := txK_len S A m an h h8 k
    have hz : -9223372036854775808 ≤ nth A k ∧ nth A k ≤ 9223372036854775807 := by
      unfold nth
      rw [List.getD_eq_getElem?_getD]
      by_cases hk : k < A.length
      · rw [List.getElem?_eq_getElem hk]; exact h _ (List.getElem_mem hk)
      · rw [List.getElem?_eq_none (by omega)]; decide
    have := pceT_len S A m an k h h8 hz
    simp only [txK, List.length_append]; omega

set_option linter.unusedSimpArgs false in
set_option maxHeartbeats 8000000 in
set_option maxRecDepth 20000 in
theorem inColumns_any (so ao : Option Addr) (sn sc an ac : Nat) (S A : List Int) (w : World) (h : Rd w so sn S) (g : Rd w ao an A) (hm : mayF S = 0) (hA : (an : Int) = pr S) (h2 : 2 ≤ sn) (T : Tb w) (m : Nat) (hmm : nth S (sn - 1) = (m : Int)) :
    Calls Tryz.prog 20 #[.agg #[.slice so sn sc, .slice ao an ac]] w fun e w' => e = .returned (.string ⟨(txK S A m an an).toArray⟩) ∧ Below w.heap.size w w' := by
  have HS : Hid (S.length = sn) := h.len
  have HM : Hid (mayF S = 0) := hm
  have HA : Hid ((an : Int) = pr S) := hA
  have HMM : Hid (nth S (sn - 1) = (m : Int)) := hmm
  have s8 : sn ≤ 8 := by have := (mayF_zero hm).2.1; rw [h.len] at this; omega
  have hpb := pr_le hm
  have a4 : an ≤ 4096 := by omega
  have H64 := in64_of g
  have LT := txK_len S A m an H64 (by rw [HS.out]; exact s8)
  have k0 := box_below w (.cells #[.slice so sn sc, .slice ao an ac] 36)
  have z0 := allocNew w (.cells #[.slice so sn sc, .slice ao an ac] 36)
  obtain ⟨y0, y1, _, _⟩ := box2 z0
  have cWd := widths_any so ao sn sc an ac S A _ (h.below k0 (Nat.le_refl _)) (g.below k0 (Nat.le_refl _)) hm hA h2 (T.below k0) m hmm
  clear hm hA hmm
  refine (callsIn_wide (n := 9)).1 ?_
  refine callsIn_of_wp_marks Tryz.func20 rfl trivial ?_ rfl
  simp only [Tryz.ntmps20, List.size_toArray, List.length_cons, List.length_nil, Nat.reduceAdd, Nat.reduceSub, Array.replicate_succ, Array.replicate_zero, List.push_toArray, List.append_toArray, List.nil_append, List.cons_append]
  gi_upto_region 3 with (refine ⟨trivial, ?_⟩; gi_at_call 41; refine (callsIn_wide.2 cWd).mono ?_; rintro e w1 ⟨o1, rfl, F1, k1⟩)
  have z1 := (k1.block w.heap.size (by simp)).trans z0
  have K1 := k0.trans (k1.mono k0.size)
  have s1 : w.heap.size < w1.heap.size := by have := k1.size; simp at this; omega
  have ka := box_below w1 (.cells #[.slice (some o1) m m] 25)
  have kb := box_below (w1.alloc (.cells #[.slice (some o1) m m] 25)) (.cells #[.pointer none, .slice none 0 0] 73)
  have kab : Below w1.heap.size w1 ((w1.alloc (.cells #[.slice (some o1) m m] 25)).alloc (.cells #[.pointer none, .slice none 0 0] 73)) := ka.trans (kb.mono ka.size)
  have n0 := (kab.block w.heap.size s1).trans z1
  have n1 : ((w1.alloc (.cells #[.slice (some o1) m m] 25)).alloc (.cells #[.pointer none, .slice none 0 0] 73)).heap[w1.heap.size]? = _ := (kb.block w1.heap.size (by simp)).trans (allocNew w1 (.cells #[.slice (some o1) m m] 25))
  have n2 : Bd ((w1.alloc (.cells #[.slice (some o1) m m] 25)).alloc (.cells #[.pointer none, .slice none 0 0] 73)) (w1.heap.size + 1) [] := by have := bd_new (w1.alloc (.cells #[.slice (some o1) m m] 25)); rw [World.size_alloc] at this; exact this
  have n3 := (F1.below kab (Nat.le_refl _)).mono k0.size
  have K2 := K1.trans (kab.mono K1.size)
  generalize hU : ((w1.alloc (.cells #[.slice (some o1) m m] 25)).alloc (.cells #[.pointer none, .slice none 0 0] 73)) = U at *
  have sU : w1.heap.size + 2 ≤ U.heap.size := by rw [← hU]; simp
  have HU : Hid (w1.heap.size + 2 ≤ U.heap.size) := sU
  obtain ⟨v0, v1, _, _⟩ := box2 n0
  have cA := all_any so sn sc S U (h.below K2 (Nat.le_refl _))
  clear hU sU ka kb kab y0 y1 cWd F1 k1 z1
  gi_wp2_with (refine ⟨trivial, ?_⟩; gi_at_call 42; refine (callsIn_wide.2 cA).mono ?_; rintro e w4 ⟨B1, B2, qo, qc, rfl, hq4, hf4, hB1, hB2, hb4⟩)
  have bl : ∀ {B : Nat} {o : Obj}, U.heap[B]? = some o → w4.heap[B]? = some o := fun {B o} h => (hb4.block B (Array.getElem?_eq_some_iff.1 h).1).trans h
  have st : CoI w so sn sc ao an ac m (w1.heap.size + 1) o1 B1 B2 qo qc S A 0 w4 := ⟨bl n0, ⟨w1.heap.size, rfl, s1, bl n1⟩, n3.below hb4 (Nat.le_refl _), n2.below hb4, hq4.size, hq4.list, hf4.ftS.mono K2.size, K2.trans (hb4.mono K2.size)⟩
  have hw4 : w.heap.size + 3 ≤ w4.heap.size := by have := hb4.size; have := HU.out; omega
  clear hq4 hf4 hb4 cA bl n0 n1 n2 n3 K1 K2
  refine range_over (gf := 63) (lb := #[.pointer (some ⟨B1, 0, none⟩), .pointer (some ⟨B2, 0, none⟩)]) rfl (enters_of Tryz.func63 (by kernel_rfl) rfl) (CoI w so sn sc ao an ac m (w1.heap.size + 1) o1 B1 B2 qo qc S A (pr S).toNat) (fun _ _ => False) ?it ?done ?stop
  case stop => exact fun _ _ _ h => h.elim
  case done =>
    intro W hD hI
    have e0 : (pr S).toNat = an := by have := HA.out; omega
    rw [e0] at hI
    have cG := bd_get W (w1.heap.size + 1) _ hI.bd
    have hlw : w4.heap.size ≠ w1.heap.size + 1 := by
      intro e
      obtain ⟨cs, hc⟩ := hI.bd.row
      rw [← e, hD] at hc
      cases hc
    gi_wp2_with (refine ⟨trivial, ?_⟩; gi_at_call 40; refine (callsIn_wide.2 cG).mono ?_; rintro e V2 ⟨rfl, B2', j2, o2⟩)
    have hD2 : V2.heap[w4.heap.size]? = some (.deferred (some [])) := (⟨o2, j2⟩ : Kp (w1.heap.size + 1) W V2).heap hI.bd hD (fun c fz e => by cases e) (fun c e => by cases e)
    refine ⟨by simp, .inl ⟨_, _, rfl, run_takeDeferred hD2, ?_⟩⟩
    have g1 := grownBy_putObj' V2 w4.heap.size (.deferred none)
    have bel2 : Below w.heap.size w V2 := hI.bel.trans (j2.mono (by omega))
    exact ⟨_, results_tmp rfl _ _ _, rfl, below_grown bel2 g1 (by omega)⟩
  case it =>
    intro L l W eT eP eA eB eO el hr hb hs5
    have hl1 : w.heap.size + 3 ≤ l := by omega
    have hown : w.heap.size + 3 ≤ L.own := by omega
    have st1 := st.below (hb.mono (by omega))
    clear el hs5 hb st eO
    refine (all1_range 8 l B1 B2 (by omega) qo sn qc S HM.out (fun k W => L.is .ready none l W ∧ CoI w so sn sc ao an ac m (w1.heap.size + 1) o1 B1 B2 qo qc S A k W) ?hJ ?hJb ?hY W ⟨hr, st1⟩).mono ?_
    case hJ => exact fun k W hJ => hJ.2.sq
    case hJb => exact fun k W W' hJ hb => ⟨hJ.1.below hb (Nat.le_refl _), hJ.2.below hb⟩
    case hY =>
      rintro k W0 W1 lo lc hk ⟨hr1, hi1⟩ hsz ⟨hr0, hi0⟩ hf
      clear hr st1 W
      refine YieldAt.mono (yield_round (K := CoI w so sn sc ao an ac m (w1.heap.size + 1) o1 B1 B2 qo qc S A (k + 1)) (X := fun _ _ => False) eT eP eA eB hr1 rfl ?_) ?_
      · clear eT eP eA eB hr0 hi0
        gi_wp2
        refine ⟨hr1, fun W2 hr2 hg2 => ?_⟩
        have hi2 := hi1.keptL hg2 hr1.1 (by omega)
        have hf2 := (hf.keptL hg2 hr1.1).ftS
        clear hg2 hi1 hr1 hf hsz
        have hkn : k < an := by have := HA.out; omega
        have hz := g.num k hkn
        have hwl := wr_len (nth A k) hz.1 hz.2
        have hLT := LT k
        obtain ⟨hco, hcm⟩ := col_ok HM.out HS.out (by omega) hk m HMM.out
        have hwd := widK_nn S A m H64 an (colN S k)
        have hwh := widK_has S A m an k hkn hcm
        have HTX : Hid (txK S A m an (k + 1) = txK S A m an k ++ pceT S A m an k) := rfl
        obtain ⟨bw, eb, _, ebx⟩ := hi2.bb
        obtain rfl : bw = w1.heap.size := by omega
        clear eb
        obtain ⟨wd, hwdd⟩ : ∃ wd : Nat, nth (widK S A m an) (colN S k) = (wd : Int) := ⟨(nth (widK S A m an) (colN S k)).toNat, by omega⟩
        obtain ⟨q, hq⟩ : ∃ q, sn - 1 = q := ⟨_, rfl⟩
        have w1' : (sn : Int) - 1 = (q : Int) := by omega
        have q1 : q < sn := by omega
        rw [hq] at hco
        obtain ⟨wb, woff, rfl, _, _⟩ : ∃ wb woff, o1 = ⟨wb, woff, none⟩ ∧ wb < W2.heap.size ∧ True := by
          obtain ⟨b', off', e', hl', _⟩ := hi2.row.rd.cells (by omega)
          exact ⟨b', off', Option.some.inj e', hl', trivial⟩
        obtain ⟨lb, loff, rfl, _, _⟩ := hf2.rd.cells (by omega)
        have CELLS : ∀ V, Kp (w1.heap.size + 1) W2 V → V.cell? ⟨w1.heap.size, 0, none⟩ = some (.slice (some ⟨wb, woff, none⟩) m m) ∧ V.cell? ⟨lb, loff + q, none⟩ = some (.int .i64 (colN S k : Int)) ∧ V.cell? ⟨wb, woff + colN S k, none⟩ = some (.int .i64 (wd : Int)) := fun V kV => by
          obtain ⟨b1, f1, e1, _, c1⟩ := (kV.ft hi2.bd hi2.row (by decide) (by decide)).rd.cells (by omega)
          cases e1
          obtain ⟨b3, f3, e3, _, c3⟩ := (kV.ft hi2.bd hf2 (by decide) (by decide)).rd.cells (by omega)
          cases e3
          have c1' := c1 (colN S k) hcm
          have c3' := c3 q q1
          rw [hwdd] at c1'
          rw [hco] at c3'
          have bx : Boxed V w1.heap.size 25 (.slice (some ⟨wb, woff, none⟩) m m) := kV.box hi2.bd ebx (by decide) (by decide)
          exact ⟨bx.cell, c3', c1'⟩
        have ATS : ∀ V, Kp (w1.heap.size + 1) W2 V → ∃ ab aoff, ao = some ⟨ab, aoff, none⟩ ∧ V.cell? ⟨ab, aoff + k, none⟩ = some (.int .i64 (nth A k)) ∧ V.cell? ⟨w.heap.size, 1, none⟩ = some (.slice ao an ac) ∧ Tb V := fun V kV => by
          have bV : Below w.heap.size w V := hi2.bel.trans (kV.bel.mono (by omega))
          obtain ⟨ab, aoff, e', _, c'⟩ := (g.below bV (Nat.le_refl _)).cells (by omega)
          exact ⟨ab, aoff, e', c' k hkn, (box2 (kV.box hi2.bd hi2.i0 (by decide) (by decide))).2.1, T.below bV⟩
        have HP : Hid (pceT S A m an k = (if k = 0 then [] else btw (digs S k)) ++ List.replicate (wd - (wrt (nth A k)).length) 32 ++ wrt (nth A k)) := by
          show _ = _
          unfold pceT
          rw [hwdd, Int.toNat_natCast]
        have bwd : (wrt (nth A k)).length ≤ wd ∧ wd ≤ 21 := by rw [hwdd] at hwh hwd; omega
        have bco : ((colN S k : Nat) : Int) < (m : Int) := by omega
        have ba : (k : Int) < (an : Int) := by omega
        have qsn : (q : Int) < (sn : Int) := by omega
        have tw : wrap64 ((wd : Int) - ((wrt (nth A k)).length : Int)) = ((wd - (wrt (nth A k)).length : Nat) : Int) := by unfold wrap64; omega
        have ew : (wd : Int) - ((wrt (nth A k)).length : Int) = ((wd - (wrt (nth A k)).length : Nat) : Int) := by omega
        have BTW : Hid (k ≠ 0 → trz (digs S k) < sn) := fun h0 => by have := trz_lt HM.out hk (by omega); rwa [HS.out] at this
        have hbl : (btw (digs S k)).length ≤ 9 := by have := btw_len (digs S k); rw [digs_len, HS.out] at this; omega
        have NXT := fun V (kV : Kp (w1.heap.size + 1) W2 V) hd => hi2.next hr2 kV hd (by omega : w.heap.size ≤ l)
        have hd2 := hi2.bd
        have HD2 : Hid (Ft 3 W2 W0.heap.size (some ⟨lb, loff, none⟩) sn lc (digs S k)) := hf2
        have BIG : w1.heap.size + 1 ≤ W2.heap.size := Nat.le_of_lt hd2.lt
        clear hwdd hco hwh hwd hcm ebx hq tw
        generalize hav : nth A k = av at *
        generalize hcc : colN S k = co at *
        clear hav hcc
        by_cases h0 : k = 0
        · subst h0
          obtain ⟨ab, aoff, rfl, x5, x6, TW⟩ := ATS W2 ⟨Lib.OthersKept.refl _ _ _, Below.refl _ _⟩
          rw [Nat.add_zero] at x5
          have cW := written_any av W2 hz.1 hz.2 TW
          have HP' : Hid (pceT S A m an 0 = List.replicate (wd - (wrt av).length) 32 ++ wrt av) := by have := HP.out; rw [if_pos rfl, List.nil_append] at this; exact this
          clear HP BTW
          gi_wp2_with (refine ⟨trivial, ?_⟩; gi_at_call 39; refine (CallsIn.inRound l (callsIn_wide.2 cW)).mono ?_; rintro e V3 ⟨rfl, k3⟩)
          have K3 : Kp (w1.heap.size + 1) W2 V3 := Kp.of k3 BIG
          have hd3 := hd2.below k3
          have KD : Kp (w1.heap.size + 1) V3 V3.drew := Kp.of (Below.refl _ V3).drew (Nat.le_of_lt hd3.lt)
          have ALLS : ∀ V, Kp (w1.heap.size + 1) V3 V → V.cell? ⟨w1.heap.size, 0, none⟩ = some (.slice (some ⟨wb, woff, none⟩) m m) ∧ V.cell? ⟨lb, loff + q, none⟩ = some (.int .i64 (co : Int)) ∧ V.cell? ⟨wb, woff + co, none⟩ = some (.int .i64 (wd : Int)) ∧ Kp (w1.heap.size + 1) V3 V := fun V kV => by
            obtain ⟨a1, a2, a3⟩ := CELLS V (K3.trans kV)
            exact ⟨a1, a2, a3, kV⟩
          have HS0 := ALLS V3.drew KD
          have cR := Tryz.strings_Repeat ⟨#[32]⟩ (wd - (wrt av).length) V3.drew (by omega) (by show 1 * _ ≤ _; omega)
          rw [show Lib.repeatL (⟨#[32]⟩ : ByteArray).data.toList (wd - (wrt av).length) = List.replicate (wd - (wrt av).length) 32 from rep_is 32 _] at cR
          clear ATS CELLS
          obtain ⟨rp, hrp⟩ : ∃ rp, List.replicate (wd - (wrt av).length) (32 : UInt8) = rp := ⟨_, rfl⟩
          have hrl : rp.length = wd - (wrt av).length := by rw [← hrp]; simp
          rw [hrp] at cR
          have HRP : Hid (List.replicate (wd - (wrt av).length) (32 : UInt8) = rp) := hrp
          clear hrp
          have hwq : IntKind.i64.wrap (q : Int) = (q : Int) := wrapJ _ (by omega) (by omega)
          have hww : IntKind.i64.wrap ((wd - (wrt av).length : Nat) : Int) = ((wd - (wrt av).length : Nat) : Int) := wrapJ _ (by omega) (by omega)
          refine wp_roundR (fun V => V.cell? ⟨w1.heap.size, 0, none⟩ = some (.slice (some ⟨wb, woff, none⟩) m m) ∧ V.cell? ⟨lb, loff + q, none⟩ = some (.int .i64 (co : Int)) ∧ V.cell? ⟨wb, woff + co, none⟩ = some (.int .i64 (wd : Int)) ∧ Kp (w1.heap.size + 1) V3 V) (fun _ => true) (by kernel_rfl) (by kernel_rfl) (by rintro ⟨_, _, h⟩; exact h) ?_
          refine wpAnyR_take (i := 0) (v := .slice (some ⟨wb, woff, none⟩) m m) rfl (by kernel_rfl) (by kernel_rfl) (by kernel_rfl) (by kernel_rfl) (fun _ _ _ h => h) (Or.inl ⟨by rfl, fun V hV => ?_⟩) ?_ ?_
          · obtain ⟨g0, g1, g2, g3⟩ := hV
            go_simp
          · exact HS0
          (try (conv => arg 9; simp [Act.put]))
          refine wpAnyR_take (i := 1) (v := .slice (some ⟨lb, loff, none⟩) sn lc) rfl (by kernel_rfl) (by kernel_rfl) (by kernel_rfl) (by kernel_rfl) (fun _ _ _ h => h) (Or.inl ⟨by rfl, fun V hV => ?_⟩) ?_ ?_
          · obtain ⟨g0, g1, g2, g3⟩ := hV
            go_simp
          · exact HS0
          (try (conv => arg 9; simp [Act.put]))
          refine wpAnyR_take (i := 2) (v := .slice (some ⟨lb, loff, none⟩) sn lc) rfl (by kernel_rfl) (by kernel_rfl) (by kernel_rfl) (by kernel_rfl) (fun _ _ _ h => h) (Or.inl ⟨by rfl, fun V hV => ?_⟩) ?_ ?_
          · obtain ⟨g0, g1, g2, g3⟩ := hV
            go_simp
          · exact HS0
          (try (conv => arg 9; simp [Act.put]))
          refine wpAnyR_take (i := 3) (v := .int .i64 (sn : Int)) rfl (by kernel_rfl) (by kernel_rfl) (by kernel_rfl) (by kernel_rfl) (fun _ _ _ h => h) (Or.inl ⟨by rfl, fun V hV => ?_⟩) ?_ ?_
          · obtain ⟨g0, g1, g2, g3⟩ := hV
            go_simp
          · exact HS0
          (try (conv => arg 9; simp [Act.put]))
          refine wpAnyR_take (i := 4) (v := .int .i64 (q : Int)) rfl (by kernel_rfl) (by kernel_rfl) (by kernel_rfl) (by kernel_rfl) (fun _ _ _ h => h) (Or.inl ⟨by rfl, fun V hV => ?_⟩) ?_ ?_
          · obtain ⟨g0, g1, g2, g3⟩ := hV
            go_simp
          · exact HS0
          (try (conv => arg 9; simp [Act.put]))
          refine wpAnyR_take (i := 5) (v := .pointer (some ⟨lb, loff + q, none⟩)) rfl (by kernel_rfl) (by kernel_rfl) (by kernel_rfl) (by kernel_rfl) (fun _ _ _ h => h) (Or.inl ⟨by rfl, fun V hV => ?_⟩) ?_ ?_
          · obtain ⟨g0, g1, g2, g3⟩ := hV
            go_simp
          · exact HS0
          (try (conv => arg 9; simp [Act.put]))
          refine wpAnyR_take (i := 6) (v := .int .i64 (co : Int)) rfl (by kernel_rfl) (by kernel_rfl) (by kernel_rfl) (by kernel_rfl) (fun _ _ _ h => h) (Or.inl ⟨by rfl, fun V hV => ?_⟩) ?_ ?_
          · obtain ⟨g0, g1, g2, g3⟩ := hV
            go_simp
          · exact HS0
          (try (conv => arg 9; simp [Act.put]))
          refine wpAnyR_take (i := 7) (v := .pointer (some ⟨wb, woff + co, none⟩)) rfl (by kernel_rfl) (by kernel_rfl) (by kernel_rfl) (by kernel_rfl) (fun _ _ _ h => h) (Or.inl ⟨by rfl, fun V hV => ?_⟩) ?_ ?_
          · obtain ⟨g0, g1, g2, g3⟩ := hV
            go_simp
          · exact HS0
          (try (conv => arg 9; simp [Act.put]))
          refine wpAnyR_take (i := 8) (v := .int .i64 (wd : Int)) rfl (by kernel_rfl) (by kernel_rfl) (by kernel_rfl) (by kernel_rfl) (fun _ _ _ h => h) (Or.inl ⟨by rfl, fun V hV => ?_⟩) ?_ ?_
          · obtain ⟨g0, g1, g2, g3⟩ := hV
            go_simp
          · exact HS0
          (try (conv => arg 9; simp [Act.put]))
          refine wpAnyR_take (i := 9) (v := .string ⟨(wrt av).toArray⟩) rfl (by kernel_rfl) (by kernel_rfl) (by kernel_rfl) (by kernel_rfl) (fun _ _ _ h => h) (Or.inl ⟨by rfl, fun V hV => ?_⟩) ?_ ?_
          · obtain ⟨g0, g1, g2, g3⟩ := hV
            go_simp
          · exact HS0
          (try (conv => arg 9; simp [Act.put]))
          refine wpAnyR_take (i := 10) (v := .int .i64 ((wrt av).length : Int)) rfl (by kernel_rfl) (by kernel_rfl) (by kernel_rfl) (by kernel_rfl) (fun _ _ _ h => h) (Or.inl ⟨by rfl, fun V hV => ?_⟩) ?_ ?_
          · obtain ⟨g0, g1, g2, g3⟩ := hV
            go_simp
          · exact HS0
          (try (conv => arg 9; simp [Act.put]))
          refine wpAnyR_take (i := 11) (v := .int .i64 ((wd - (wrt av).length : Nat) : Int)) rfl (by kernel_rfl) (by kernel_rfl) (by kernel_rfl) (by kernel_rfl) (fun _ _ _ h => h) (Or.inl ⟨by rfl, fun V hV => ?_⟩) ?_ ?_
          · obtain ⟨g0, g1, g2, g3⟩ := hV
            go_simp
          · exact HS0
          (try (conv => arg 9; simp [Act.put]))
          refine wpAnyR_one (i := 12) (by kernel_rfl) rfl (fun K hK => ?_)
          go_simp
          go_wp2_with (go_at_call 32; (with_reducible refine cR.mono ?_); rintro e V4 ⟨rfl, k4⟩)
          have K4 : Kp (w1.heap.size + 1) V3 V4 := KD.trans (Kp.of k4 (Nat.le_of_lt (hd3.below (Below.refl _ V3).drew).lt))
          have hd4 := (hd3.below (Below.refl _ V3).drew).below k4
          have HS4 := ALLS V4 K4
          refine ⟨fun _ => HS4, ?_⟩
          (try (conv => arg 9; simp [Act.put]))
          refine wpAnyR_one (i := 13) (by kernel_rfl) rfl (fun K hK => ?_)
          go_simp
          have cS4 := bd_str V4 (w1.heap.size + 1) _ rp hd4 (by rw [hrl]; omega)
          go_wp2_with (go_at_call 38; (with_reducible refine cS4.mono ?_); rintro e V5 ⟨rfl, hd5, b5, o5⟩)
          have K5 := K4.trans ⟨o5, b5⟩
          refine ⟨fun _ => ALLS V5 K5, ?_⟩
          (try (conv => arg 9; simp [Act.put]))
          refine wpAnyR_done (by kernel_rfl) ?_ _
          have cS5 := bd_str V5 (w1.heap.size + 1) _ (wrt av) hd5 (by simp only [List.length_append]; rw [hrl]; omega)
          gi_wp2_with (refine ⟨trivial, ?_⟩; gi_at_call 38; refine (CallsIn.inRound l (callsIn_wide.2 cS5)).mono ?_; rintro e V6 ⟨rfl, hd6, b6, o6⟩)
          refine NXT V6 (K3.trans (K5.trans ⟨o6, b6⟩)) ?_
          rw [HTX.out, HP'.out, HRP.out, ← List.append_assoc]
          exact hd6
        · have t0 : (0 : Int) < (k : Int) := by omega
          have t0' : 0 < k := by omega
          have HP' : Hid (pceT S A m an k = btw (digs S k) ++ List.replicate (wd - (wrt av).length) 32 ++ wrt av) := by have := HP.out; rw [if_neg h0] at this; exact this
          have cB := between_any (some ⟨lb, loff, none⟩) sn lc (digs S k) W2 HD2.out.rd s8 (BTW.out h0)
          clear HP BTW h0
          generalize btw (digs S k) = bt' at *
          gi_wp2_with (first
            | (refine ⟨trivial, ?_⟩; gi_at_call 43; refine (CallsIn.inRound l (callsIn_wide.2 cB)).mono ?_; rintro e Va ⟨rfl, ka⟩; have hda := hd2.below ka; have Ka : Kp (w1.heap.size + 1) W2 Va := Kp.of ka BIG; have cSa := bd_str Va (w1.heap.size + 1) _ bt' hda (by omega))
            | (refine ⟨trivial, ?_⟩; gi_at_call 38; refine (CallsIn.inRound l (callsIn_wide.2 cSa)).mono ?_; rintro e Vb ⟨rfl, hdb, bb, ob⟩; have Kb := Ka.trans ⟨ob, bb⟩; obtain ⟨ab, aoff, rfl, x5, x6, TW⟩ := ATS Vb Kb; have cW := written_any av Vb hz.1 hz.2 TW)
            | (refine ⟨trivial, ?_⟩; gi_at_call 39; refine (CallsIn.inRound l (callsIn_wide.2 cW)).mono ?_; rintro e V3 ⟨rfl, k3⟩))
          have K3 : Kp (w1.heap.size + 1) W2 V3 := Kb.trans (Kp.of k3 (Nat.le_of_lt hdb.lt))
          have hd3 := hdb.below k3
          have KD : Kp (w1.heap.size + 1) V3 V3.drew := Kp.of (Below.refl _ V3).drew (Nat.le_of_lt hd3.lt)
          have ALLS : ∀ V, Kp (w1.heap.size + 1) V3 V → V.cell? ⟨w1.heap.size, 0, none⟩ = some (.slice (some ⟨wb, woff, none⟩) m m) ∧ V.cell? ⟨lb, loff + q, none⟩ = some (.int .i64 (co : Int)) ∧ V.cell? ⟨wb, woff + co, none⟩ = some (.int .i64 (wd : Int)) ∧ Kp (w1.heap.size + 1) V3 V := fun V kV => by
            obtain ⟨a1, a2, a3⟩ := CELLS V (K3.trans kV)
            exact ⟨a1, a2, a3, kV⟩
          have HS0 := ALLS V3.drew KD
          have cR := Tryz.strings_Repeat ⟨#[32]⟩ (wd - (wrt av).length) V3.drew (by omega) (by show 1 * _ ≤ _; omega)
          rw [show Lib.repeatL (⟨#[32]⟩ : ByteArray).data.toList (wd - (wrt av).length) = List.replicate (wd - (wrt av).length) 32 from rep_is 32 _] at cR
          clear ATS CELLS
          obtain ⟨rp, hrp⟩ : ∃ rp, List.replicate (wd - (wrt av).length) (32 : UInt8) = rp := ⟨_, rfl⟩
          have hrl : rp.length = wd - (wrt av).length := by rw [← hrp]; simp
          rw [hrp] at cR
          have HRP : Hid (List.replicate (wd - (wrt av).length) (32 : UInt8) = rp) := hrp
          clear hrp
          have hwq : IntKind.i64.wrap (q : Int) = (q : Int) := wrapJ _ (by omega) (by omega)
          have hww : IntKind.i64.wrap ((wd - (wrt av).length : Nat) : Int) = ((wd - (wrt av).length : Nat) : Int) := wrapJ _ (by omega) (by omega)
          refine wp_roundR (fun V => V.cell? ⟨w1.heap.size, 0, none⟩ = some (.slice (some ⟨wb, woff, none⟩) m m) ∧ V.cell? ⟨lb, loff + q, none⟩ = some (.int .i64 (co : Int)) ∧ V.cell? ⟨wb, woff + co, none⟩ = some (.int .i64 (wd : Int)) ∧ Kp (w1.heap.size + 1) V3 V) (fun _ => true) (by kernel_rfl) (by kernel_rfl) (by rintro ⟨_, _, h⟩; exact h) ?_
          refine wpAnyR_take (i := 0) (v := .slice (some ⟨wb, woff, none⟩) m m) rfl (by kernel_rfl) (by kernel_rfl) (by kernel_rfl) (by kernel_rfl) (fun _ _ _ h => h) (Or.inl ⟨by rfl, fun V hV => ?_⟩) ?_ ?_
          · obtain ⟨g0, g1, g2, g3⟩ := hV
            go_simp
          · exact HS0
          (try (conv => arg 9; simp [Act.put]))
          refine wpAnyR_take (i := 1) (v := .slice (some ⟨lb, loff, none⟩) sn lc) rfl (by kernel_rfl) (by kernel_rfl) (by kernel_rfl) (by kernel_rfl) (fun _ _ _ h => h) (Or.inl ⟨by rfl, fun V hV => ?_⟩) ?_ ?_
          · obtain ⟨g0, g1, g2, g3⟩ := hV
            go_simp
          · exact HS0
          (try (conv => arg 9; simp [Act.put]))
          refine wpAnyR_take (i := 2) (v := .slice (some ⟨lb, loff, none⟩) sn lc) rfl (by kernel_rfl) (by kernel_rfl) (by kernel_rfl) (by kernel_rfl) (fun _ _ _ h => h) (Or.inl ⟨by rfl, fun V hV => ?_⟩) ?_ ?_
          · obtain ⟨g0, g1, g2, g3⟩ := hV
            go_simp
          · exact HS0
          (try (conv => arg 9; simp [Act.put]))
          refine wpAnyR_take (i := 3) (v := .int .i64 (sn : Int)) rfl (by kernel_rfl) (by kernel_rfl) (by kernel_rfl) (by kernel_rfl) (fun _ _ _ h => h) (Or.inl ⟨by rfl, fun V hV => ?_⟩) ?_ ?_
          · obtain ⟨g0, g1, g2, g3⟩ := hV
            go_simp
          · exact HS0
          (try (conv => arg 9; simp [Act.put]))
          refine wpAnyR_take (i := 4) (v := .int .i64 (q : Int)) rfl (by kernel_rfl) (by kernel_rfl) (by kernel_rfl) (by kernel_rfl) (fun _ _ _ h => h) (Or.inl ⟨by rfl, fun V hV => ?_⟩) ?_ ?_
          · obtain ⟨g0, g1, g2, g3⟩ := hV
            go_simp
          · exact HS0
          (try (conv => arg 9; simp [Act.put]))
          refine wpAnyR_take (i := 5) (v := .pointer (some ⟨lb, loff + q, none⟩)) rfl (by kernel_rfl) (by kernel_rfl) (by kernel_rfl) (by kernel_rfl) (fun _ _ _ h => h) (Or.inl ⟨by rfl, fun V hV => ?_⟩) ?_ ?_
          · obtain ⟨g0, g1, g2, g3⟩ := hV
            go_simp
          · exact HS0
          (try (conv => arg 9; simp [Act.put]))
          refine wpAnyR_take (i := 6) (v := .int .i64 (co : Int)) rfl (by kernel_rfl) (by kernel_rfl) (by kernel_rfl) (by kernel_rfl) (fun _ _ _ h => h) (Or.inl ⟨by rfl, fun V hV => ?_⟩) ?_ ?_
          · obtain ⟨g0, g1, g2, g3⟩ := hV
            go_simp
          · exact HS0
          (try (conv => arg 9; simp [Act.put]))
          refine wpAnyR_take (i := 7) (v := .pointer (some ⟨wb, woff + co, none⟩)) rfl (by kernel_rfl) (by kernel_rfl) (by kernel_rfl) (by kernel_rfl) (fun _ _ _ h => h) (Or.inl ⟨by rfl, fun V hV => ?_⟩) ?_ ?_
          · obtain ⟨g0, g1, g2, g3⟩ := hV
            go_simp
          · exact HS0
          (try (conv => arg 9; simp [Act.put]))
          refine wpAnyR_take (i := 8) (v := .int .i64 (wd : Int)) rfl (by kernel_rfl) (by kernel_rfl) (by kernel_rfl) (by kernel_rfl) (fun _ _ _ h => h) (Or.inl ⟨by rfl, fun V hV => ?_⟩) ?_ ?_
          · obtain ⟨g0, g1, g2, g3⟩ := hV
            go_simp
          · exact HS0
          (try (conv => arg 9; simp [Act.put]))
          refine wpAnyR_take (i := 9) (v := .string ⟨(wrt av).toArray⟩) rfl (by kernel_rfl) (by kernel_rfl) (by kernel_rfl) (by kernel_rfl) (fun _ _ _ h => h) (Or.inl ⟨by rfl, fun V hV => ?_⟩) ?_ ?_
          · obtain ⟨g0, g1, g2, g3⟩ := hV
            go_simp
          · exact HS0
          (try (conv => arg 9; simp [Act.put]))
          refine wpAnyR_take (i := 10) (v := .int .i64 ((wrt av).length : Int)) rfl (by kernel_rfl) (by kernel_rfl) (by kernel_rfl) (by kernel_rfl) (fun _ _ _ h => h) (Or.inl ⟨by rfl, fun V hV => ?_⟩) ?_ ?_
          · obtain ⟨g0, g1, g2, g3⟩ := hV
            go_simp
          · exact HS0
          (try (conv => arg 9; simp [Act.put]))
          refine wpAnyR_take (i := 11) (v := .int .i64 ((wd - (wrt av).length : Nat) : Int)) rfl (by kernel_rfl) (by kernel_rfl) (by kernel_rfl) (by kernel_rfl) (fun _ _ _ h => h) (Or.inl ⟨by rfl, fun V hV => ?_⟩) ?_ ?_
          · obtain ⟨g0, g1, g2, g3⟩ := hV
            go_simp
          · exact HS0
          (try (conv => arg 9; simp [Act.put]))
          refine wpAnyR_one (i := 12) (by kernel_rfl) rfl (fun K hK => ?_)
          go_simp
          go_wp2_with (go_at_call 32; (with_reducible refine cR.mono ?_); rintro e V4 ⟨rfl, k4⟩)
          have K4 : Kp (w1.heap.size + 1) V3 V4 := KD.trans (Kp.of k4 (Nat.le_of_lt (hd3.below (Below.refl _ V3).drew).lt))
          have hd4 := (hd3.below (Below.refl _ V3).drew).below k4
          have HS4 := ALLS V4 K4
          refine ⟨fun _ => HS4, ?_⟩
          (try (conv => arg 9; simp [Act.put]))
          refine wpAnyR_one (i := 13) (by kernel_rfl) rfl (fun K hK => ?_)
          go_simp
          have cS4 := bd_str V4 (w1.heap.size + 1) _ rp hd4 (by rw [hrl, List.length_append]; omega)
          go_wp2_with (go_at_call 38; (with_reducible refine cS4.mono ?_); rintro e V5 ⟨rfl, hd5, b5, o5⟩)
          have K5 := K4.trans ⟨o5, b5⟩
          refine ⟨fun _ => ALLS V5 K5, ?_⟩
          (try (conv => arg 9; simp [Act.put]))
          refine wpAnyR_done (by kernel_rfl) ?_ _
          have cS5 := bd_str V5 (w1.heap.size + 1) _ (wrt av) hd5 (by simp only [List.length_append]; rw [hrl]; omega)
          gi_wp2_with (refine ⟨trivial, ?_⟩; gi_at_call 38; refine (CallsIn.inRound l (callsIn_wide.2 cS5)).mono ?_; rintro e V6 ⟨rfl, hd6, b6, o6⟩)
          refine NXT V6 (K3.trans (K5.trans ⟨o6, b6⟩)) ?_
          rw [HTX.out, HP'.out, HRP.out, ← List.append_assoc, ← List.append_assoc]
          exact hd6
      · rintro e W2 (⟨rfl, h1, h2⟩ | ⟨_, c, _, h⟩)
        · exact ⟨rfl, h1, h2⟩
        · exact h.elim
    · rintro e W1 ⟨hv, hr1, hi1⟩
      exact ⟨hv, .inl ⟨hr1, fun W2 hg => hi1.keptL hg hr1.1 (by omega)⟩⟩
end Go.Proofs.YtppcfpiihkaopaaGreatDoor
