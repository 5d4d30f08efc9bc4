
/- Contract of package digit: binary digits. -/

import Derived.Test.YtjnlkdeiccllgaaZW

namespace Go.Proofs.Ytjnlkdeiccllgaa

open Go.RowKit

set_option linter.unusedVariables false

/-- The most binary digits of the first k. -/
def wdt (ay : List Int) (k : Nat) : Nat := (ay.take k).foldl (fun m n => max m (bdg n)) 0
theorem wdt_succ {ay : List Int} {k : Nat} (h : k < ay.length) : wdt ay (k + 1) = max (wdt ay k) (bdg (nth ay k)) := by
  unfold wdt; rw [take_nth h, List.foldl_append]; rfl
theorem wdt_le {ay : List Int} (h : ∀ k, k < ay.length → -9223372036854775808 ≤ nth ay k ∧ nth ay k ≤ 9223372036854775807) : ∀ k, k ≤ ay.length → wdt ay k ≤ 64
  | 0, _ => by simp [wdt]
  | k + 1, hk => by
    rw [wdt_succ (by omega)]
    have := wdt_le h k (by omega)
    have := bdg_bd (h k (by omega)).1 (h k (by omega)).2
    omega
/-- A binary digit. -/
def bitZ (n : Int) (b : Nat) : Int := n / 2 ^ b % 2
def rowB (n : Int) (w : Nat) : List Int := (List.range w).map (fun k => bitZ n (w - 1 - k))
def binA (ay : List Int) (w : Nat) : List Int := ay.flatMap (fun n => rowB n w)
theorem rowB_len (n : Int) (w : Nat) : (rowB n w).length = w := by simp [rowB]
theorem binA_snoc (ay : List Int) (n : Int) (w : Nat) : binA (ay ++ [n]) w = binA ay w ++ rowB n w := by simp [binA]
theorem binA_len (ay : List Int) (w : Nat) : (binA ay w).length = ay.length * w := by
  induction ay with
  | nil => simp [binA]
  | cons n ay ih =>
    rw [binA, List.flatMap_cons, List.length_append, rowB_len, List.length_cons, Nat.succ_mul]
    rw [binA] at ih
    rw [ih, Nat.add_comm]
theorem bt_bd (n : Int) (b : Nat) : 0 ≤ bitZ n b ∧ bitZ n b ≤ 1 := by unfold bitZ; omega
theorem conc_W (V : World) (W : Nat) (o2 : Option Addr) (n2 c2 : Nat) (ys : List Int) (hW : W ≤ 4096) (h : Rd V o2 n2 ys) (hs : Sl o2 n2 c2) (hn : n2 ≤ 4096) :
    Calls Try.prog 34 #[.slice (some ⟨V.heap.size + 1, 0, none⟩) 2 2] ((V.alloc (.cells #[.int .i64 (W : Nat)] 3)).alloc (.cells #[.slice o2 n2 c2, .slice (some ⟨V.heap.size, 0, none⟩) 1 1] 22)) fun e w' => ∃ co c, e = .returned (.slice co (n2 + 1) c) ∧ Ft 3 w' V.heap.size co (n2 + 1) c (ys ++ [(W : Int)]) ∧ Below V.heap.size V w' := by
  have L0 : Ft 3 (V.alloc (.cells #[.int .i64 (W : Nat)] 3)) V.heap.size (some ⟨V.heap.size, 0, none⟩) 1 1 [(W : Int)] := ft_new 3 V [(W : Int)] (by simp) (num1 (by omega) (by omega))
  have k1 := box_below V (.cells #[.int .i64 (W : Nat)] 3)
  have k2 := box_below (V.alloc (.cells #[.int .i64 (W : Nat)] 3)) (.cells #[.slice o2 n2 c2, .slice (some ⟨V.heap.size, 0, none⟩) 1 1] 22)
  have hv := allocNew (V.alloc (.cells #[.int .i64 (W : Nat)] 3)) (.cells #[.slice o2 n2 c2, .slice (some ⟨V.heap.size, 0, none⟩) 1 1] 22)
  simp only [World.size_alloc] at hv k2
  have h1 := (L0.below k2 (by simp))
  have kk := k1.trans (k2.mono (by omega))
  refine (concat_any o2 (some ⟨V.heap.size, 0, none⟩) n2 c2 1 1 (V.heap.size + 1) ys [(W : Int)] _ hv ((h.below k1 (Nat.le_refl _)).below k2 (by simp)) hs h1.rd h1.sl (by omega) (by omega)).mono ?_
  rintro e w' ⟨co, c, he, f, b⟩
  exact ⟨co, c, he, f.mono kk.size, kk.trans (b.mono kk.size)⟩

set_option maxHeartbeats 4000000 in
set_option maxRecDepth 20000 in
theorem toBinary_bad (so ao : Option Addr) (sn sc an ac : Nat) (sy ay : List Int) (w : World) (hy : Rd w so sn sy) (hs : Sl so sn sc) (ga : Rd w ao an ay) (sn4 : sn ≤ 4096) (an4 : an ≤ 4096) (hF : mayF (sy ++ [((wdt ay an : Nat) : Int)]) = 17) :
    Calls Try.prog 27 #[.agg #[.slice so sn sc, .slice ao an ac]] w fun e w' => AnsQ w (fun S A => S = [] ∧ A = []) 17 e w' := by
  have U0 := un_startQ w so sn sc ao an ac
  obtain ⟨x0, x1, _, _⟩ := box2 U0.x
  have HL : Hid (ay.length = an) := ga.len
  have HNUM : Hid (∀ k, k < an → -9223372036854775808 ≤ nth ay k ∧ nth ay k ≤ 9223372036854775807) := ga.num
  have HW : Hid (∀ k, k < an → wdt ay (k + 1) = max (wdt ay k) (bdg (nth ay k))) := fun k hk => wdt_succ (by rw [HL.out]; exact hk)
  have HW4 : Hid (∀ k, k ≤ an → wdt ay k ≤ 64) := fun k hk => wdt_le (fun j hj => HNUM.out j (by rw [← HL.out]; exact hj)) k (by rw [HL.out]; exact hk)
  have HF : Hid (mayF (sy ++ [((wdt ay an : Nat) : Int)]) = 17) := hF
  have hz0 : wdt ay 0 = 0 := rfl
  clear hF
  generalize hwf : wdt ay = wf at *
  have HZ0 : Hid (wf 0 = 0) := hz0
  have HWF : Hid (wdt ay = wf) := hwf
  clear hwf hz0
  go_enter Try.func27, Try.ntmps27
  go_wp2
  generalize (w.alloc (.cells #[.slice so sn sc, .slice ao an ac] 26)).alloc (.cells #[.slice none 0 0, .slice none 0 0] 26) = U at *
  clear x0 x1
  go_loopw [4, 17] (fun s i V => ∃ k : Nat, k ≤ an ∧ i = .int .i64 (k : Nat) ∧ s = .int .i64 ((wf k : Nat) : Int) ∧ V = U) (fun _ i _ => an - (intOf i).toNat)
  case atStart => exact ⟨0, Nat.zero_le _, rfl, by rw [HZ0.out]; rfl, rfl⟩
  case round =>
    obtain ⟨k, hk, rfl, rfl, rfl⟩ := hrel
    by_cases hlt : k < an
    · have t1 : decide ((k : Int) < (an : Int)) = true := by simp; omega
      have bk : (k : Int) < (an : Int) := by omega
      obtain ⟨b, off, rfl, hb, hc⟩ := (ga.below U0.bel (Nat.le_refl _)).cells (by omega)
      have cc := hc k hlt
      have hnum := HNUM.out k hlt
      have cB := binaryDigits_any (nth ay k) hnum.1 hnum.2 wr
      have HS : Hid (_) := HW.out k hlt
      clear hc hnum
      generalize nth ay k = x at *
      generalize hbd : bdg x = bd at *
      generalize hwk : wf k = wk at *
      have HS2 : Hid (wf (k + 1) = max wk bd) := HS.out
      clear hbd hwk HS
      go_wp2_with (go_at_call 40; (with_reducible refine cB.mono ?_); rintro e w1 ⟨rfl, hw⟩; rw [hw]; clear hw w1)
      all_goals
        go_roundw
        case rel => exact ⟨k + 1, by omega, by go_num, by rw [HS2.out]; congr 1; omega, (by first | trivial | rfl)⟩
        case measure => simp [intOf]; omega
    · obtain rfl : k = an := by omega
      have t1 : decide ((k : Int) < (k : Int)) = false := by simp
      have w64 := HW4.out k (Nat.le_refl _)
      obtain ⟨x0, x1, _, _⟩ := box2 U0.x
      have sU := U0.sz
      have cC := conc_W wr (wf k) so sn sc sy (by omega) (hy.below U0.bel (Nat.le_refl _)) hs sn4
      generalize hwk : wf k = W at *
      go_wp2_with (first
        | (go_at_call 34; (with_reducible refine cC.mono ?_); rintro e w3 ⟨o3, c3, rfl, f3, k3⟩; have U3 := U0.below k3 sU; have cZ := size_any o3 (sn + 1) c3 _ w3 f3.rd; rw [HF.out] at cZ; obtain ⟨q0, q1, q2, q3⟩ := box2 U3.r)
        | (go_at_call 10; (with_reducible refine cZ.mono ?_); rintro e w4 ⟨rfl, hw⟩; rw [hw]; clear hw w4))
      (try simp only [Exit.inBlock, Exit.then])
      refine bodyPost_ret (v := .tuple #[.agg #[.slice none 0 0, .slice none 0 0], .int .i64 17]) (by rw [results_cell_tmp rfl]; go_simp) rfl ?_
      exact ret17 rfl (below_set2 _ _ _ _ U3.bel (by omega) (Nat.le_refl _))

set_option maxHeartbeats 4000000 in
set_option maxRecDepth 20000 in
theorem toBinary_ok (so ao : Option Addr) (sn sc an ac : Nat) (sy ay : List Int) (w : World) (hy : Rd w so sn sy) (hs : Sl so sn sc) (ga : Rd w ao an ay) (sn4 : sn ≤ 4096) (an4 : an ≤ 4096) (hF : mayF (sy ++ [((wdt ay an : Nat) : Int)]) = 0) (SZ : Nat) (hSZ : sizeF (sy ++ [((wdt ay an : Nat) : Int)]) = (SZ : Int)) (hSZ4 : SZ ≤ 4096) (hcut : an * wdt ay an = SZ) :
    Calls Try.prog 27 #[.agg #[.slice so sn sc, .slice ao an ac]] w fun e w' => AnsQ w (fun S A => S = sy ++ [((wdt ay an : Nat) : Int)] ∧ A = binA ay (wdt ay an)) 0 e w' := by
  have U0 := un_startQ w so sn sc ao an ac
  obtain ⟨x0, x1, _, _⟩ := box2 U0.x
  have HL : Hid (ay.length = an) := ga.len
  have HNUM : Hid (∀ k, k < an → -9223372036854775808 ≤ nth ay k ∧ nth ay k ≤ 9223372036854775807) := ga.num
  have HW : Hid (∀ k, k < an → wdt ay (k + 1) = max (wdt ay k) (bdg (nth ay k))) := fun k hk => wdt_succ (by rw [HL.out]; exact hk)
  have HW4 : Hid (∀ k, k ≤ an → wdt ay k ≤ 64) := fun k hk => wdt_le (fun j hj => HNUM.out j (by rw [← HL.out]; exact hj)) k (by rw [HL.out]; exact hk)
  have HF : Hid (mayF (sy ++ [((wdt ay an : Nat) : Int)]) = 0) := hF
  have hz0 : wdt ay 0 = 0 := rfl
  clear hF
  have HSZ : Hid (sizeF (sy ++ [((wdt ay an : Nat) : Int)]) = (SZ : Int)) := hSZ
  have HC : Hid (an * wdt ay an = SZ) := hcut
  have HS4 : Hid (SZ ≤ 4096) := hSZ4
  clear hSZ hcut hSZ4
  generalize hwf : wdt ay = wf at *
  have HZ0 : Hid (wf 0 = 0) := hz0
  have HWF : Hid (wdt ay = wf) := hwf
  clear hwf hz0
  go_enter Try.func27, Try.ntmps27
  go_wp2
  generalize (w.alloc (.cells #[.slice so sn sc, .slice ao an ac] 26)).alloc (.cells #[.slice none 0 0, .slice none 0 0] 26) = U at *
  clear x0 x1
  go_loopw [4, 17] (fun s i V => ∃ k : Nat, k ≤ an ∧ i = .int .i64 (k : Nat) ∧ s = .int .i64 ((wf k : Nat) : Int) ∧ V = U) (fun _ i _ => an - (intOf i).toNat)
  case atStart => exact ⟨0, Nat.zero_le _, rfl, by rw [HZ0.out]; rfl, rfl⟩
  case round =>
    obtain ⟨k, hk, rfl, rfl, rfl⟩ := hrel
    by_cases hlt : k < an
    · have t1 : decide ((k : Int) < (an : Int)) = true := by simp; omega
      have bk : (k : Int) < (an : Int) := by omega
      obtain ⟨b, off, rfl, hb, hc⟩ := (ga.below U0.bel (Nat.le_refl _)).cells (by omega)
      have cc := hc k hlt
      have hnum := HNUM.out k hlt
      have cB := binaryDigits_any (nth ay k) hnum.1 hnum.2 wr
      have HS : Hid (_) := HW.out k hlt
      clear hc hnum
      generalize nth ay k = x at *
      generalize hbd : bdg x = bd at *
      generalize hwk : wf k = wk at *
      have HS2 : Hid (wf (k + 1) = max wk bd) := HS.out
      clear hbd hwk HS
      go_wp2_with (go_at_call 40; (with_reducible refine cB.mono ?_); rintro e w1 ⟨rfl, hw⟩; rw [hw]; clear hw w1)
      all_goals
        go_roundw
        case rel => exact ⟨k + 1, by omega, by go_num, by rw [HS2.out]; congr 1; omega, (by first | trivial | rfl)⟩
        case measure => simp [intOf]; omega
    · obtain rfl : k = an := by omega
      have t1 : decide ((k : Int) < (k : Int)) = false := by simp
      have w64 := HW4.out k (Nat.le_refl _)
      obtain ⟨x0, x1, _, _⟩ := box2 U0.x
      have sU := U0.sz
      have cC := conc_W wr (wf k) so sn sc sy (by omega) (hy.below U0.bel (Nat.le_refl _)) hs sn4
      have HC2 : Hid (k * wf k = SZ) := HC.out
      have HF2 : Hid (mayF (sy ++ [((wf k : Nat) : Int)]) = 0 ∧ sizeF (sy ++ [((wf k : Nat) : Int)]) = (SZ : Int)) := ⟨HF.out, HSZ.out⟩
      have HPO : Hid (wdt ay k = wf k) := by rw [← HWF.out]; exact rfl
      generalize hwk : wf k = W at *
      have HWK : Hid (wf k = W) := hwk
      clear hwk HC HF HSZ HW HW4
      have hS4 := HS4.out
      have hmk := run_make_room (P := Try.prog) 24 2 (.int .i64 0) 8 Try.underlying24 infoL3 rfl .i64 .i64 SZ (by omega) (by omega)
      go_upto_region 12 with (first
        | (go_at_call 34; (with_reducible refine cC.mono ?_); rintro e w3 ⟨o3, c3, rfl, f3, k3⟩; have U3 := U0.below k3 sU; have cZ := size_any o3 (sn + 1) c3 _ w3 f3.rd; rw [HF2.out.1, HF2.out.2] at cZ)
        | (go_at_call 10; (with_reducible refine cZ.mono ?_); rintro e w4 ⟨rfl, hw⟩; rw [hw]; clear hw w4))
      have R0 := room_ftT 2 w3 SZ (by omega)
      have kb := box_below w3 (.cells (madeCells #[.int .i64 0] SZ) 2)
      have U4 := U3.below kb U3.sz
      have f4 := f3.below kb (Nat.le_refl _)
      have s3 := U3.sz
      generalize hW4' : w3.alloc (.cells (madeCells #[.int .i64 0] SZ) 2) = W4 at *
      clear hW4' hmk cC cZ k3 x0 x1
      have s4 := U4.sz
      obtain ⟨y0, y1, _, _⟩ := box2 U4.x
      have sW4 : w3.heap.size ≤ W4.heap.size := kb.size
      go_wp2
      go_loopw [10, 46] (fun s i V => ∃ (j : Nat) (oo : Option Addr) (oc : Nat), j ≤ k ∧ i = .int .i64 (j : Nat) ∧ s = .slice oo (j * W) oc ∧ Ft 2 V w3.heap.size oo (j * W) oc (binA (ay.take j) W) ∧ Below w3.heap.size w3 V) (fun _ i _ => k - (intOf i).toNat)
      case atStart => exact ⟨0, _, _, Nat.zero_le _, rfl, by rw [Nat.zero_mul], by rw [Nat.zero_mul]; exact R0, kb⟩
      case round =>
        obtain ⟨j, oo, oc, hj, rfl, rfl, fo, Bj⟩ := hrel
        have sBj := Bj.size
        by_cases hlt : j < k
        · have t2 : decide ((j : Int) < (k : Int)) = true := by simp; omega
          have bj : (j : Int) < (k : Int) := by omega
          have UX := U3.below Bj U3.sz
          obtain ⟨b, off, rfl, hb, hc⟩ := (ga.below UX.bel (Nat.le_refl _)).cells (by omega)
          have cc := hc j hlt
          have HTK : Hid (binA (ay.take (j + 1)) W = binA (ay.take j) W ++ rowB (nth ay j) W) := by show _ = _; rw [take_nth (by rw [HL.out]; exact hlt), binA_snoc]
          have hkm : Hid (j * W + W ≤ SZ) := by
            have := Nat.mul_le_mul_right W (show j + 1 ≤ k by omega)
            rw [Nat.succ_mul, HC2.out] at this
            exact this
          have wW : IntKind.i64.wrap ((W : Int) - 1) = (W : Int) - 1 := wrZ (by omega) (by omega)
          clear hc
          generalize nth ay j = x at *
          go_wp2
          generalize hM : j * W = M at *
          go_loopw [10, 13] (fun s i V => ∃ (b : Nat) (o2 : Option Addr) (c2 : Nat), b ≤ W ∧ i = .int .i64 ((b : Int) - 1) ∧ s = .slice o2 (M + (W - b)) c2 ∧ Ft 2 V w3.heap.size o2 (M + (W - b)) c2 (binA (ay.take j) W ++ (List.range (W - b)).map (fun q => bitZ x (W - 1 - q))) ∧ Below w3.heap.size w3 V) (fun _ i _ => (intOf i + 1).toNat)
          case atStart => exact ⟨W, oo, oc, Nat.le_refl _, rfl, by rw [Nat.sub_self]; rfl, by rw [Nat.sub_self]; simpa using fo, Bj⟩
          case round =>
            obtain ⟨b, o2, c2, hb2, rfl, rfl, f2, B2⟩ := hrel
            have sB2 := B2.size
            cases b with
            | zero =>
              go_wp2
              go_roundw
              case rel =>
                rw [Nat.sub_zero, show (List.range W).map (fun q => bitZ x (W - 1 - q)) = rowB x W from rfl, ← HTK.out] at f2
                refine ⟨j + 1, o2, c2, by omega, by go_num, ?_, ?_, B2⟩
                · rw [Nat.succ_mul, hM]; simp
                · rw [Nat.succ_mul, hM]; exact f2
              case measure => simp [intOf]; omega
            | succ b =>
              obtain ⟨Q, hQ⟩ : ∃ Q : Int, Q = x / 2 ^ b := ⟨_, rfl⟩
              have hmin : min b 64 = b := by omega
              have hq : x / 2 ^ min b 64 = Q := by rw [hmin, hQ]
              have hq2 : x / 2 ^ b = Q := hQ.symm
              obtain ⟨D, hD⟩ : ∃ D : Int, D = Q % 2 := ⟨_, rfl⟩
              have hd : bits .and .i64 Q 1 = D := by rw [i64_and1, hD]
              have hDb : -9223372036854775808 ≤ D ∧ D ≤ 9223372036854775807 := by omega
              have HD : Hid (D = bitZ x (W - 1 - (W - (b + 1)))) := by
                show _ = _
                rw [hD, hQ, show W - 1 - (W - (b + 1)) = b by omega]; rfl
              have wb : IntKind.i64.wrap ((b : Int) - 1) = (b : Int) - 1 := wrZ (by omega) (by omega)
              have hsub : M + (W - (b + 1)) + 1 = M + (W - b) := by omega
              have HSB : Hid (M + (W - (b + 1)) + 1 = M + (W - b) ∧ W - (b + 1) + 1 = W - b) := ⟨hsub, by omega⟩
              generalize hMW : M + (W - (b + 1)) = MW at *
              have hk2 := hkm.out
              have mw4 : MW ≤ 4096 := by omega
              clear hsub hMW hQ hD hmin hk2
              go_wp2_with (at_builtin; refine wpList_joinT tyL rfl _ _ rfl w3.heap.size o2 (some ⟨wr.heap.size, 0, none⟩) MW c2 1 1 _ [D] rfl rfl (f2.below (box_below wr _) (Nat.le_refl _)) (ft_new 2 wr [D] (by simp) (num1 hDb.1 hDb.2)).rd (ft_new 2 wr [D] (by simp) (num1 hDb.1 hDb.2)).sl (by omega) (by simp; omega) ?_; intro co3 c3 w5 f5 b5)
              go_roundw
              case rel =>
                rw [HD.out, List.append_assoc, range_snoc, HSB.out.2, HSB.out.1] at f5
                exact ⟨b, co3, c3, by omega, by go_num, by rw [HSB.out.1], f5, B2.trans (((box_below wr _).mono sB2).trans b5)⟩
              case measure => simp [intOf]
        · obtain rfl : j = k := by omega
          have t2 : decide ((j : Int) < (j : Int)) = false := by simp
          have UX := U3.below Bj U3.sz
          obtain ⟨r0, r1, r2, r3⟩ := box2 UX.r
          go_wp2
          (try simp only [Exit.inBlock, Exit.then])
          refine bodyPost_ret (v := .tuple #[.agg #[.slice o3 (sn + 1) c3, .slice oo (j * W) oc], .int .i64 0]) (by rw [results_cell_tmp rfl]; go_simp) rfl ?_
          rw [List.take_of_length_le (by rw [HL.out]; exact Nat.le_refl _)] at fo
          have e0 : (fun m => wf m) j = W := HWK.out
          exact ⟨_, _, _, _, _, _, _, _, rfl, (ft_setQ (f3.below Bj (Nat.le_refl _)) (by omega) _ _).mono (by omega), (ft_setQ fo (by omega) _ _).mono (by omega), ⟨by rw [HWK.out], by rw [HWK.out]⟩, below_set2 _ _ _ _ UX.bel (by omega) (Nat.le_refl _)⟩
end Go.Proofs.Ytjnlkdeiccllgaa
