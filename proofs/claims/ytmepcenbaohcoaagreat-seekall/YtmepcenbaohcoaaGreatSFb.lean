
/- Package seek: classes and sorts, refused ones too. -/

import Derived.Test.YtmepcenbaohcoaaGreatSFa

namespace Go.Proofs.YtmepcenbaohcoaaGreat

open Go.RowKit

set_option linter.unusedVariables false

set_option maxHeartbeats 4000000 in
set_option maxRecDepth 20000 in
theorem classify_all (so ao : Option Addr) (sn sc an ac : Nat) (sh at' : List Int) (w : World) (h : Rd w so sn sh) (hs : Sl so sn sc) (g : Rd w ao an at') (gs : Sl ao an ac) (h0 : mayA sh at' = 0) :
    Calls Tryz.prog 43 #[.agg #[.slice so sn sc, .slice ao an ac]] w fun e w' => AnsQ w (fun S A => (mayF [((nbP sh at').length : Int), (itN sh : Int)] = 0 → S = [((nbP sh at').length : Int), (itN sh : Int)] ∧ A = ckL (nbP sh at') (fsL (itX sh at') (itN sh)) (itN sh)) ∧ (¬ mayF [((nbP sh at').length : Int), (itN sh : Int)] = 0 → S = [] ∧ A = [])) (mayF [((nbP sh at').length : Int), (itN sh : Int)]) e w' := by
  have U0 := un_startQ w so sn sc ao an ac
  have hfi := finderOf_any so ao sn sc an ac sh at' _ (h.below U0.bel (Nat.le_refl _)) hs (g.below U0.bel (Nat.le_refl _)) gs h0
  obtain ⟨q0, q1, _, _⟩ := box2 U0.x
  have hle := nbP_len sh at'
  have HNB : Hid (nbP sh at' = nwo (fsL (itX sh at') (itN sh)) (itN sh)) := rfl
  generalize nbP sh at' = nb at *
  generalize itN sh = n at *
  generalize itX sh at' = xs at *
  have HFL : Hid ((fsL xs n).length = n) := fsL_len _ _
  obtain ⟨fs, hfx⟩ : ∃ fs, fsL xs n = fs := ⟨_, rfl⟩
  have HFX : Hid (fsL xs n = fs) := hfx
  rw [hfx] at HNB HFL ⊢
  obtain ⟨m, hm⟩ : ∃ m : Nat, nb.length = m := ⟨_, rfl⟩
  have HM : Hid (nb.length = m) := hm
  rw [hm] at hle ⊢
  clear hfx hm
  have FN : ∀ V : World, n ≤ 4096 → Ft 3 (V.alloc (.cells #[.int .i64 (m : Nat), .int .i64 (n : Nat)] 3)) V.heap.size (some ⟨V.heap.size, 0, none⟩) 2 2 [(m : Int), (n : Int)] := fun V hn => ft_new 3 V [(m : Int), (n : Int)] (by simp) (fun j hj => by
    match j, hj with
    | 0, _ => exact ⟨by show (-9223372036854775808 : Int) ≤ m; omega, by show (m : Int) ≤ _; omega⟩
    | 1, _ => exact ⟨by show (-9223372036854775808 : Int) ≤ n; omega, by show (n : Int) ≤ _; omega⟩
    | j + 2, hj => simp at hj; omega)
  have hfill := fun (V : World) (hn : n ≤ 4096) => fill_any (some ⟨V.heap.size, 0, none⟩) 2 2 [(m : Int), (n : Int)] 0 _ (FN V hn).rd (FN V hn).sl (by omega) (by omega)
  clear FN
  have epr : pr [(m : Int), (n : Int)] = ((m * n : Nat) : Int) := by simp [pr]
  obtain ⟨E, hE⟩ : ∃ E, mayF [(m : Int), (n : Int)] = E := ⟨_, rfl⟩
  have HE : Hid (mayF [(m : Int), (n : Int)] = E) := hE
  have HMN : Hid (E = 0 → m * n ≤ 4096) := fun h => by
    have := pr_small (zs := [(m : Int), (n : Int)]) (hE.trans h) 2 (by simp)
    rw [List.take_of_length_le (by simp), epr] at this
    omega
  rw [hE]
  rw [hE] at hfill
  clear hE epr
  go_enter Tryz.func43, Tryz.ntmps43
  go_upto_region 4 with (first
    | (go_at_call 58; (with_reducible refine hfi.mono ?_); rintro e w1 ⟨io, po, pc, rfl, Fn, lb⟩; have U1 := U0.below lb U0.sz; have hn4 := Fn.n4)
    | (go_at_call 67; (with_reducible refine (firsts_any _ _ _ _ _ _ w1 Fn).mono ?_); rintro e w2 ⟨g2, rfl, f2, b2⟩; have U2 := U1.below b2 U1.sz; rw [HFX.out] at f2)
    | (go_at_call 66; (with_reducible refine (newOnes_any _ _ _ _ w2 f2.rd hn4).mono ?_); rintro e w3 ⟨o3, m3, c3, rfl, f3, b3⟩; have U3 := U2.below b3 U2.sz; rw [← HNB.out] at f3; have e3 : m3 = m := f3.rd.len.symm.trans HM.out; subst e3; have F2 := f2.below b3 (Nat.le_refl _); have kl := box_below w3 (.cells #[.int .i64 (m3 : Nat), .int .i64 (n : Nat)] 3); have U4 := U3.below kl U3.sz; have F2' := F2.below kl (Nat.le_refl _); have F3' := f3.below kl (Nat.le_refl _))
    | (go_at_call 68; (with_reducible refine (hfill w3 hn4).mono ?_); rintro e w4 ⟨o1, n1, c1, o2, n2, c2, rfl, G1, G2, hap, k4⟩))
  have s4 := U4.sz
  have U5 := U4.below k4 s4
  have z4 := k4.size
  have kz := box_below w4 (.cells #[.slice o1 n1 c1, .slice o2 n2 c2] 30)
  have zb := allocNew w4 (.cells #[.slice o1 n1 c1, .slice o2 n2 c2] 30)
  have U6 := U5.below kz U5.sz
  clear hfi hfill lb Fn U1 b2 b3 U2 U3 f2 f3 F2 kl q0 q1 h g U0
  by_cases hE0 : E = 0
  case neg =>
    have t1 : (E != 0) = true := by simpa using hE0
    obtain ⟨r0, r1, r2, r3⟩ := box2 U6.r
    go_wp2
    (try simp only [Exit.inBlock, Exit.then])
    refine bodyPost_ret (v := .tuple #[.agg #[.slice none 0 0, .slice none 0 0], .int .i64 E]) (by rw [results_cell_tmp rfl]; go_simp) rfl ?_
    exact ⟨none, 0, 0, none, 0, 0, [], [], rfl, Ft.nil _ _ _, Ft.nil _ _ _, (by first | exact ⟨fun h => absurd h hE0, fun _ => ⟨rfl, rfl⟩⟩ | exact ⟨rfl, rfl⟩), below_set2 _ _ _ _ U6.bel (by omega) (Nat.le_refl _)⟩
  subst hE0
  have hmn := HMN.out rfl
  have t1 : ((0 : Int) != 0) = false := by simp
  have eS : filS [(m3 : Int), (n : Int)] = [(m3 : Int), (n : Int)] := by unfold filS; rw [if_pos HE.out]
  have eA : (filA [(m3 : Int), (n : Int)] 0).length = m3 * n := by
    unfold filA
    rw [if_pos HE.out, List.length_replicate]
    simp [pr]
    exact Int.toNat_natCast _
  rw [eS] at G1
  have en2 : n2 = m3 * n := G2.rd.len.symm.trans eA
  clear eS eA
  obtain ⟨z0, hz0⟩ : ∃ z0, filA [(m3 : Int), (n : Int)] 0 = z0 := ⟨_, rfl⟩
  rw [hz0] at G2
  clear hz0
  generalize hX : w3.alloc (Obj.cells #[Value.int IntKind.i64 (m3 : Nat), Value.int IntKind.i64 (n : Nat)] 3) = X at *
  have E0 : Ek X (w4.alloc (.cells #[.slice o1 n1 c1, .slice o2 n2 c2] 30)) w4.heap.size o1 n1 c1 [(m3 : Int), (n : Int)] o2 n2 c2 z0 := ⟨k4.trans (kz.mono k4.size), zb, G1.below kz (Nat.le_refl _), G2.below kz (Nat.le_refl _)⟩
  clear G1 G2 kz zb U6 U5 k4 z4 HMN hap HE hX
  have HN : Hid (n2 = m3 * n) := en2
  rw [← en2] at hmn
  clear en2
  go_wp2
  go_loopw [32] (fun i V => ∃ (k : Nat) (zs : List Int), k ≤ m3 ∧ i = .int .i64 (k : Nat) ∧ Ek X V w4.heap.size o1 n1 c1 [(m3 : Int), (n : Int)] o2 n2 c2 zs ∧ ∀ q, q < k * n → nth zs q = nth (ckL nb fs n) q) (fun i _ => m3 - (intOf i).toNat)
  case atStart => exact ⟨0, _, Nat.zero_le _, rfl, E0, fun q hq => by omega⟩
  case round =>
    obtain ⟨k, zs, hk, rfl, R, Z⟩ := hrel
    clear E0
    by_cases hlt : k < m3
    · have t2 : decide ((k : Int) < (m3 : Int)) = true := by simp; omega
      have bk : (k : Int) < (m3 : Int) := by omega
      have wk := wrY (z := (k : Int) + 1) (by omega) (by omega)
      have RV := F3'.rd.below R.bel (Nat.le_refl _)
      obtain ⟨b3, off3, rfl, hb3, hc3⟩ := RV.cells (by omega)
      have c3' := hc3 k hlt
      have HC : Hid (∀ j, j < n → nth (ckL nb fs n) (k * n + j) = if (nth nb k == nth fs j) = true then 1 else 0) := fun j hj => ckL_nth (by rw [HM.out]; exact hlt) hj
      have hkn : k * n + n ≤ n2 := by
        have := Nat.mul_le_mul_right n (show k + 1 ≤ m3 by omega)
        rw [Nat.succ_mul] at this
        rw [HN.out]
        exact this
      have HS : Hid (∀ kn, k * n = kn → (k + 1) * n = kn + n) := fun kn e => by rw [Nat.succ_mul, e]
      have HK : Hid ((k : Int) * (n : Int) = ((k * n : Nat) : Int)) := by exact Int.natCast_mul k n
      obtain ⟨x, hx⟩ : ∃ x, nth nb k = x := ⟨_, rfl⟩
      rw [hx] at HC c3'
      obtain ⟨kn, hkn2⟩ : ∃ kn, k * n = kn := ⟨_, rfl⟩
      have HS' := HS.out kn hkn2
      rw [hkn2] at HC HK Z hkn
      have ek := HK.out
      have wm := wrY (z := (k : Int) * (n : Int)) (by omega) (by omega)
      clear hc3 hx RV HS HK
      go_wp2
      go_loopw [39] (fun i V => ∃ (j : Nat) (ys : List Int), j ≤ n ∧ i = .int .i64 (j : Nat) ∧ Ek X V w4.heap.size o1 n1 c1 [(m3 : Int), (n : Int)] o2 n2 c2 ys ∧ ∀ q, q < kn + j → nth ys q = nth (ckL nb fs n) q) (fun i _ => n - (intOf i).toNat)
      case atStart => exact ⟨0, _, Nat.zero_le _, rfl, R, fun q hq => Z q (by omega)⟩
      case round =>
        obtain ⟨j, ys, hj, rfl, T, Y⟩ := hrel
        clear R Z
        by_cases hjt : j < n
        · have t3 : decide ((j : Int) < (n : Int)) = true := by simp; omega
          have bj : (j : Int) < (n : Int) := by omega
          have wj := wrY (z := (j : Int) + 1) (by omega) (by omega)
          have RF := F2'.rd.below T.bel (Nat.le_refl _)
          obtain ⟨b, off, eb, hb, hc⟩ := RF.cells (by omega)
          cases eb
          have cc := hc j hjt
          rw [Nat.zero_add] at cc
          have HV := HC.out j hjt
          have HV2 : Hid (nth (ckL nb fs n) (kn + j) = if (x == nth fs j) = true then 1 else 0) := HV
          obtain ⟨y, hy⟩ : ∃ y, nth fs j = y := ⟨_, rfl⟩
          rw [hy] at HV2 cc
          have ht := fun V => truth_any (x == y) V
          have hbd : -9223372036854775808 ≤ (if (x == y) = true then (1 : Int) else 0) ∧ (if (x == y) = true then (1 : Int) else 0) ≤ 9223372036854775807 := by split <;> omega
          obtain ⟨u, hu⟩ : ∃ u : Int, (if (x == y) = true then (1 : Int) else 0) = u := ⟨_, rfl⟩
          rw [hu] at hbd ht HV2
          have wa := wrY (z := (kn : Int) + (j : Int)) (by omega) (by omega)
          have hp : kn + j < n2 := by omega
          obtain ⟨p, hpp⟩ : ∃ p, kn + j = p := ⟨_, rfl⟩
          have ep : (kn : Int) + (j : Int) = (p : Int) := by omega
          have HPP : Hid (kn + j = p) := hpp
          have wp := wrY (z := (p : Int)) (by omega) (by omega)
          have wkn := wrY (z := (kn : Int)) (by omega) (by omega)
          rw [hpp] at HV2 hp Y
          have bp : (p : Int) < (n2 : Int) := by omega
          have T1 := T.drew
          obtain ⟨b2, rfl, ⟨v1, cv1⟩, fz1⟩ := T1.slot hp
          have T6 := T1.set hp u hbd.1 hbd.2
          have SA : _ ∧ _ := ⟨(box2 T1.out).2.1, (box2 T1.out).1⟩
          have S6 : _ ∧ _ := ⟨(box2 T6.out).2.1, (box2 T6.out).1⟩
          have HY : Hid (∀ q, q < p → nth ys q = nth (ckL nb fs n) q) := Y
          clear hc hu hy Y HV hpp
          go_wp2
          go_region_held3 (fun U => U.cell? ⟨w4.heap.size, 1, none⟩ = some (.slice (some ⟨b2, 0, none⟩) n2 c2) ∧ U.cell? ⟨w4.heap.size, 0, none⟩ = some (.slice o1 n1 c1)) (first | exact SA | exact S6)
            (first
              | (go_at_call 63; (with_reducible refine (ht _).mono ?_); rintro e w5 ⟨rfl, hw5⟩; rw [hw5]; clear hw5 w5))
          go_wp2
          go_roundw
          case rel => exact ⟨j + 1, _, by omega, by go_num, T6, fun q hq => by
            rw [nth_setY (by rw [T.f2.rd.len]; exact hp)]
            split
            · rename_i e; rw [e, HV2.out]
            · exact HY.out q (by have := HPP.out; omega)⟩
          case measure => simp [intOf]; omega
        · obtain rfl : j = n := by omega
          have t3 : decide ((j : Int) < (j : Int)) = false := by simp
          have HY : Hid (∀ q, q < kn + j → nth ys q = nth (ckL nb fs j) q) := Y
          clear Y
          go_wp2
          go_roundw
          case rel => exact ⟨k + 1, _, by omega, by go_num, T, fun q hq => HY.out q (by rw [HS'] at hq; exact hq)⟩
          case measure => simp [intOf]; omega
    · obtain rfl : k = m3 := by omega
      have t2 : decide ((k : Int) < (k : Int)) = false := by simp
      have ez : zs = ckL nb fs n := ext_nth (by rw [R.f2.rd.len, ckL_len, HM.out, HN.out]) (fun q hq => by rw [R.f2.rd.len, HN.out] at hq; exact Z q hq)
      subst ez
      have U7 := U4.below R.bel s4
      have s7 := U7.sz
      obtain ⟨y0, y1, _, _⟩ := box2 R.out
      obtain ⟨r0, r1, r2, r3⟩ := box2 U7.r
      clear Z
      go_wp2
      (try simp only [Exit.inBlock, Exit.then])
      refine bodyPost_ret (v := .tuple #[.agg #[.slice o1 n1 c1, .slice o2 n2 c2], .int .i64 0]) (by rw [results_cell_tmp rfl]; go_simp) rfl ?_
      exact ⟨o1, n1, c1, o2, n2, c2, _, _, rfl, (ft_setQ R.f1 (by omega) _ _).mono (by omega), (ft_setQ R.f2 (by omega) _ _).mono (by omega), (by first | exact ⟨rfl, rfl⟩ | exact ⟨fun _ => ⟨rfl, rfl⟩, fun h => absurd rfl h⟩), below_set2 _ _ _ _ U7.bel (by omega) (Nat.le_refl _)⟩

set_option maxHeartbeats 4000000 in
theorem sortedUp_no (so ao uo bo : Option Addr) (sn sc an ac un uc bn bc : Nat) (sh at' th bt' : List Int) (w : World) (h : Rd w so sn sh) (g : Rd w ao an at') (h0 : mayA sh at' = 0) (h2 : Rd w uo un th) (g2 : Rd w bo bn bt') (h02 : mayA th bt' = 0) (het : tal sh ≠ tal th) :
    Calls Tryz.prog 72 #[.agg #[.slice so sn sc, .slice ao an ac], .agg #[.slice uo un uc, .slice bo bn bc], .func (.func 70) #[] #[]] w fun e w' => AnsQ w (fun S A => S = [] ∧ A = []) 11 e w' := by
  have D0 := du_startQ w so sn sc ao an ac uo un uc bo bn bc
  have D1 : DuQ w (((w.alloc (.cells #[.slice so sn sc, .slice ao an ac] 30)).alloc (.cells #[.slice uo un uc, .slice bo bn bc] 30)).alloc (.cells #[.slice none 0 0, .slice none 0 0] 30)).drew so sn sc ao an ac uo un uc bo bn bc := D0.below (B := w.heap.size + 3) (Below.refl _ _).drew (Nat.le_refl _)
  have ci1 := fun V (D : DuQ w V so sn sc ao an ac uo un uc bo bn bc) => items_any so ao sn sc an ac sh at' V (h.below D.bel (Nat.le_refl _)) (g.below D.bel (Nat.le_refl _))
  have ci2 := fun V (D : DuQ w V so sn sc ao an ac uo un uc bo bn bc) => items_any uo bo un uc bn bc th bt' V (h2.below D.bel (Nat.le_refl _)) (g2.below D.bel (Nat.le_refl _))
  rw [show itm sh at' = tal sh from if_pos h0] at ci1
  rw [show itm th bt' = tal th from if_pos h02] at ci2
  have hne : (tal sh != tal th) = true := by simpa using het
  have al : ∀ V, DuQ w V so sn sc ao an ac uo un uc bo bn bc → V.cell? ⟨w.heap.size, 0, none⟩ = some (.slice so sn sc) ∧ V.cell? ⟨w.heap.size, 1, none⟩ = some (.slice ao an ac) ∧ V.cell? ⟨w.heap.size + 1, 0, none⟩ = some (.slice uo un uc) ∧ V.cell? ⟨w.heap.size + 1, 1, none⟩ = some (.slice bo bn bc) := fun V D => ⟨(box2 D.x).1, (box2 D.x).2.1, (box2 D.y).1, (box2 D.y).2.1⟩
  generalize tal sh = T at *
  generalize tal th = T2 at *
  clear het
  go_enter Tryz.func72, Tryz.ntmps72
  go_wp2
  go_region_held3 (fun V => V.cell? ⟨w.heap.size, 0, none⟩ = some (.slice so sn sc) ∧ V.cell? ⟨w.heap.size, 1, none⟩ = some (.slice ao an ac) ∧ V.cell? ⟨w.heap.size + 1, 0, none⟩ = some (.slice uo un uc) ∧ V.cell? ⟨w.heap.size + 1, 1, none⟩ = some (.slice bo bn bc)) (first | exact al _ D1 | exact al _ D2 | exact al _ D3)
    (first
      | (go_at_call 89; (with_reducible refine (ci1 _ D1).mono ?_); rintro e w1 ⟨rfl, k1⟩; have D2 := D1.below k1 D1.sz)
      | (go_at_call 89; (with_reducible refine (ci2 w1 D2).mono ?_); rintro e w2 ⟨rfl, k2⟩; have D3 := D2.below k2 D2.sz))
  have s3 := D3.sz
  obtain ⟨r0, r1, r2, r3⟩ := box2 D3.r
  go_wp2
  (try simp only [Exit.inBlock, Exit.then])
  refine bodyPost_ret (v := .tuple #[.agg #[.slice none 0 0, .slice none 0 0], .int .i64 11]) (by rw [results_cell_tmp rfl]; go_simp) rfl ?_
  exact ⟨none, 0, 0, none, 0, 0, [], [], rfl, Ft.nil _ _ _, Ft.nil _ _ _, ⟨rfl, rfl⟩, below_set2 _ _ _ _ D3.bel (by omega) (Nat.le_refl _)⟩
set_option maxHeartbeats 2000000 in
theorem sortUp_no (so ao uo bo : Option Addr) (sn sc an ac un uc bn bc : Nat) (sh at' th bt' : List Int) (w : World) (h : Rd w so sn sh) (g : Rd w ao an at') (h0 : mayA sh at' = 0) (h2 : Rd w uo un th) (g2 : Rd w bo bn bt') (h02 : mayA th bt' = 0) (het : tal sh ≠ tal th) :
    Calls Tryz.prog 45 #[.agg #[.slice so sn sc, .slice ao an ac], .agg #[.slice uo un uc, .slice bo bn bc]] w fun e w' => AnsQ w (fun S A => S = [] ∧ A = []) 11 e w' := by
  have D0 := du_startQ w so sn sc ao an ac uo un uc bo bn bc
  have hso := sortedUp_no so ao uo bo sn sc an ac un uc bn bc sh at' th bt' _ (h.below D0.bel (Nat.le_refl _)) (g.below D0.bel (Nat.le_refl _)) h0 (h2.below D0.bel (Nat.le_refl _)) (g2.below D0.bel (Nat.le_refl _)) h02 het
  obtain ⟨q0, q1, _, _⟩ := box2 D0.x
  obtain ⟨y0, y1, _, _⟩ := box2 D0.y
  go_enter Tryz.func45, Tryz.ntmps45
  go_wp2_with (first
    | (go_at_call 72; (with_reducible refine hso.mono ?_); rintro e w2 ⟨o1, n1, c1, o2, n2, c2, S, A, rfl, F1, F2, hΦ, b2⟩; have s1 := D0.sz; have D2 := D0.below b2 s1; obtain ⟨r0, r1, r2, r3⟩ := box2 D2.r))
  (try simp only [Exit.inBlock, Exit.then])
  refine bodyPost_ret (v := .tuple #[.agg #[.slice o1 n1 c1, .slice o2 n2 c2], .int .i64 11]) (by rw [results_cell_tmp rfl]; go_simp) rfl ?_
  exact ⟨o1, n1, c1, o2, n2, c2, S, A, rfl, (ft_setQ F1 (by omega) _ _).mono (by omega), (ft_setQ F2 (by omega) _ _).mono (by omega), hΦ, below_set2 _ _ _ _ D2.bel (by omega) (Nat.le_refl _)⟩

set_option maxHeartbeats 4000000 in
theorem sortedDown_no (so ao uo bo : Option Addr) (sn sc an ac un uc bn bc : Nat) (sh at' th bt' : List Int) (w : World) (h : Rd w so sn sh) (g : Rd w ao an at') (h0 : mayA sh at' = 0) (h2 : Rd w uo un th) (g2 : Rd w bo bn bt') (h02 : mayA th bt' = 0) (het : tal sh ≠ tal th) :
    Calls Tryz.prog 72 #[.agg #[.slice so sn sc, .slice ao an ac], .agg #[.slice uo un uc, .slice bo bn bc], .func (.func 73) #[] #[]] w fun e w' => AnsQ w (fun S A => S = [] ∧ A = []) 11 e w' := by
  have D0 := du_startQ w so sn sc ao an ac uo un uc bo bn bc
  have D1 : DuQ w (((w.alloc (.cells #[.slice so sn sc, .slice ao an ac] 30)).alloc (.cells #[.slice uo un uc, .slice bo bn bc] 30)).alloc (.cells #[.slice none 0 0, .slice none 0 0] 30)).drew so sn sc ao an ac uo un uc bo bn bc := D0.below (B := w.heap.size + 3) (Below.refl _ _).drew (Nat.le_refl _)
  have ci1 := fun V (D : DuQ w V so sn sc ao an ac uo un uc bo bn bc) => items_any so ao sn sc an ac sh at' V (h.below D.bel (Nat.le_refl _)) (g.below D.bel (Nat.le_refl _))
  have ci2 := fun V (D : DuQ w V so sn sc ao an ac uo un uc bo bn bc) => items_any uo bo un uc bn bc th bt' V (h2.below D.bel (Nat.le_refl _)) (g2.below D.bel (Nat.le_refl _))
  rw [show itm sh at' = tal sh from if_pos h0] at ci1
  rw [show itm th bt' = tal th from if_pos h02] at ci2
  have hne : (tal sh != tal th) = true := by simpa using het
  have al : ∀ V, DuQ w V so sn sc ao an ac uo un uc bo bn bc → V.cell? ⟨w.heap.size, 0, none⟩ = some (.slice so sn sc) ∧ V.cell? ⟨w.heap.size, 1, none⟩ = some (.slice ao an ac) ∧ V.cell? ⟨w.heap.size + 1, 0, none⟩ = some (.slice uo un uc) ∧ V.cell? ⟨w.heap.size + 1, 1, none⟩ = some (.slice bo bn bc) := fun V D => ⟨(box2 D.x).1, (box2 D.x).2.1, (box2 D.y).1, (box2 D.y).2.1⟩
  generalize tal sh = T at *
  generalize tal th = T2 at *
  clear het
  go_enter Tryz.func72, Tryz.ntmps72
  go_wp2
  go_region_held3 (fun V => V.cell? ⟨w.heap.size, 0, none⟩ = some (.slice so sn sc) ∧ V.cell? ⟨w.heap.size, 1, none⟩ = some (.slice ao an ac) ∧ V.cell? ⟨w.heap.size + 1, 0, none⟩ = some (.slice uo un uc) ∧ V.cell? ⟨w.heap.size + 1, 1, none⟩ = some (.slice bo bn bc)) (first | exact al _ D1 | exact al _ D2 | exact al _ D3)
    (first
      | (go_at_call 89; (with_reducible refine (ci1 _ D1).mono ?_); rintro e w1 ⟨rfl, k1⟩; have D2 := D1.below k1 D1.sz)
      | (go_at_call 89; (with_reducible refine (ci2 w1 D2).mono ?_); rintro e w2 ⟨rfl, k2⟩; have D3 := D2.below k2 D2.sz))
  have s3 := D3.sz
  obtain ⟨r0, r1, r2, r3⟩ := box2 D3.r
  go_wp2
  (try simp only [Exit.inBlock, Exit.then])
  refine bodyPost_ret (v := .tuple #[.agg #[.slice none 0 0, .slice none 0 0], .int .i64 11]) (by rw [results_cell_tmp rfl]; go_simp) rfl ?_
  exact ⟨none, 0, 0, none, 0, 0, [], [], rfl, Ft.nil _ _ _, Ft.nil _ _ _, ⟨rfl, rfl⟩, below_set2 _ _ _ _ D3.bel (by omega) (Nat.le_refl _)⟩
set_option maxHeartbeats 2000000 in
theorem sortDown_no (so ao uo bo : Option Addr) (sn sc an ac un uc bn bc : Nat) (sh at' th bt' : List Int) (w : World) (h : Rd w so sn sh) (g : Rd w ao an at') (h0 : mayA sh at' = 0) (h2 : Rd w uo un th) (g2 : Rd w bo bn bt') (h02 : mayA th bt' = 0) (het : tal sh ≠ tal th) :
    Calls Tryz.prog 47 #[.agg #[.slice so sn sc, .slice ao an ac], .agg #[.slice uo un uc, .slice bo bn bc]] w fun e w' => AnsQ w (fun S A => S = [] ∧ A = []) 11 e w' := by
  have D0 := du_startQ w so sn sc ao an ac uo un uc bo bn bc
  have hso := sortedDown_no so ao uo bo sn sc an ac un uc bn bc sh at' th bt' _ (h.below D0.bel (Nat.le_refl _)) (g.below D0.bel (Nat.le_refl _)) h0 (h2.below D0.bel (Nat.le_refl _)) (g2.below D0.bel (Nat.le_refl _)) h02 het
  obtain ⟨q0, q1, _, _⟩ := box2 D0.x
  obtain ⟨y0, y1, _, _⟩ := box2 D0.y
  go_enter Tryz.func47, Tryz.ntmps47
  go_wp2_with (first
    | (go_at_call 72; (with_reducible refine hso.mono ?_); rintro e w2 ⟨o1, n1, c1, o2, n2, c2, S, A, rfl, F1, F2, hΦ, b2⟩; have s1 := D0.sz; have D2 := D0.below b2 s1; obtain ⟨r0, r1, r2, r3⟩ := box2 D2.r))
  (try simp only [Exit.inBlock, Exit.then])
  refine bodyPost_ret (v := .tuple #[.agg #[.slice o1 n1 c1, .slice o2 n2 c2], .int .i64 11]) (by rw [results_cell_tmp rfl]; go_simp) rfl ?_
  exact ⟨o1, n1, c1, o2, n2, c2, S, A, rfl, (ft_setQ F1 (by omega) _ _).mono (by omega), (ft_setQ F2 (by omega) _ _).mono (by omega), hΦ, below_set2 _ _ _ _ D2.bel (by omega) (Nat.le_refl _)⟩
end Go.Proofs.YtmepcenbaohcoaaGreat
