
/- The document's answers for package seek: nub, gathered. -/

import Derived.Test.YtmepcenbaohcoaaGreatRSc

namespace Go.Proofs.YtmepcenbaohcoaaGreat

open Go.RowKit

set_option linter.unusedVariables false

set_option maxHeartbeats 4000000 in
set_option maxRecDepth 20000 in
theorem refNub7 (lo : Option Addr) (n lc : Nat) (xs : Nat → List Int × List Int) (w : World) (h : AsQ w lo n xs) (hn : n ≤ 4096) :
    Calls Tryz.prog 25 #[.slice lo n lc] w fun e w' => ∃ o c, e = .returned (.slice o (nwo (fsL xs n) n).length c) ∧ Ft 3 w' w.heap.size o (nwo (fsL xs n) n).length c (nwo (fsL xs n) n) ∧ Below w.heap.size w w' := by
  have HF : Hid (∀ k, k < n → nth (fsL xs n) k = ((fsq xs n (xs k) : Nat) : Int)) := fun k hk => fsL_nth hk
  generalize fsL xs n = fs at *
  have HA : Hid (∀ V, Below w.heap.size w V → AsQ V lo n xs) := fun V k => h.below k (Nat.le_refl _)
  clear h
  go_enter Tryz.func25, Tryz.ntmps25
  go_wp2
  go_loopw [3, 4] (fun l i V => ∃ (k m : Nat) (o : Option Addr) (c : Nat), k ≤ n ∧ m ≤ k ∧ l = .slice o m c ∧ i = .int .i64 (k : Nat) ∧ Ft 3 V w.heap.size o m c (nwo fs k) ∧ Below w.heap.size w V) (fun _ i _ => n - (intOf i).toNat)
  case atStart => exact ⟨0, 0, none, 0, Nat.zero_le _, Nat.le_refl _, rfl, rfl, Ft.nil _ _ _, Below.refl _ _⟩
  case round =>
    obtain ⟨k, m, o, c, hk, hm, rfl, rfl, F, BV⟩ := hrel
    by_cases hlt : k < n
    · have t1 : decide ((k : Int) < (n : Int)) = true := by simp; omega
      have t2 : (k : Int) < (n : Int) := by omega
      have A := HA.out wr BV
      obtain ⟨b, off, rfl, hb, hc⟩ := A.cells (by omega)
      obtain ⟨eo, en, ec, fo, fn, fc, q0, q1, r0, _, r1, _⟩ := hc k hlt
      have cF := refFirst7_any (some ⟨b, off, none⟩) n lc xs eo fo en ec fn fc (xs k) wr A (by omega) r0 r1
      have hN := nwo_succ fs k
      rw [HF.out k hlt] at hN
      clear hc A r0 r1
      by_cases he : fsq xs n (xs k) = k
      · rw [he] at cF hN
        rw [if_pos rfl] at hN
        have HN : Hid (nwo fs (k + 1) = nwo fs k ++ [(k : Int)]) := hN
        have tq : ((k : Int) == (k : Int)) = true := by simp
        clear hN he
        go_wp2_with (first
          | (go_at_call 27; (with_reducible refine cF.mono ?_); rintro e V1 ⟨rfl, k1⟩; have s0 := BV.size; have s1 := k1.size; have F1 := F.below k1 (Nat.le_refl _); have kb := box_below V1 (.cells #[.int .i64 (k : Int)] 3); have F2 := F1.below kb (Nat.le_refl _); have L2 := ft_new 3 V1 [(k : Int)] (by simp) (num1 (by omega) (by omega)); have hB2 : w.heap.size ≤ (V1.alloc (.cells #[.int .i64 (k : Int)] 3)).heap.size := (by simp; omega))
          | (at_builtin; refine wpList_joinT tyI rfl _ _ rfl w.heap.size o (some ⟨V1.heap.size, 0, none⟩) m c 1 1 _ [(k : Int)] rfl rfl F2 L2.rd L2.sl (by omega) hB2 ?_; intro co3 cc3 W7 f7 b7))
        go_roundw
        case measure => simp [intOf]; omega
        case rel =>
          refine ⟨k + 1, m + 1, co3, cc3, by omega, by omega, rfl, by go_num, ?_, (BV.trans (k1.mono s0)).trans ((kb.mono (Nat.le_trans s0 s1)).trans b7)⟩
          rw [HN.out]
          exact f7
      · rw [if_neg (by omega), List.append_nil] at hN
        have HN : Hid (nwo fs (k + 1) = nwo fs k) := hN
        generalize fsq xs n (xs k) = r at *
        have tq : ((r : Int) == (k : Int)) = false := by simp; omega
        clear hN he
        go_wp2_with (first
          | (go_at_call 27; (with_reducible refine cF.mono ?_); rintro e V1 ⟨rfl, k1⟩; have s0 := BV.size; have F1 := F.below k1 (Nat.le_refl _)))
        go_roundw
        case measure => simp [intOf]; omega
        case rel =>
          refine ⟨k + 1, m, o, c, by omega, by omega, rfl, by go_num, ?_, BV.trans (k1.mono s0)⟩
          rw [HN.out]
          exact F1
    · obtain rfl : k = n := by omega
      have t1 : decide ((k : Int) < (k : Int)) = false := by simp
      go_wp2
      go_ret
      obtain rfl := F.rd.len
      exact ⟨_, _, rfl, F, BV⟩

theorem runF (u : Value) (V : World) (o1 : Option Addr) (n1 c1 : Nat) : Sem.run Tryz.prog (Instr.field 30 (.agg #[u, .slice o1 n1 c1]) 1) V = Result.ok (.slice o1 n1 c1) V := by kernel_rfl
theorem chA_bd {xs : Nat → List Int × List Int} (z : Nat) (h : ∀ j, (xs j).2.length ≤ z) (ps : List Int) (k : Nat) : (chA xs ps k).length ≤ k * z := by
  unfold chA
  have key : ∀ l : List Int, ((l.map (fun p => (xs p.toNat).2)).flatten).length ≤ l.length * z := fun l => by
    induction l with
    | nil => simp
    | cons a l ih => rw [List.map_cons, List.flatten_cons, List.length_append, List.length_cons, Nat.succ_mul]; have := h a.toNat; omega
  refine Nat.le_trans (key _) ?_
  rw [List.length_take]
  exact Nat.mul_le_mul_right _ (Nat.min_le_left _ _)
set_option maxHeartbeats 4000000 in
set_option maxRecDepth 20000 in
theorem refGathered7 (so ao : Option Addr) (sn sc an ac : Nat) (s a : List Int) (po : Option Addr) (m pc : Nat) (ps : List Int) (w : World) (h : Rd w so sn s) (hs : Sl so sn sc) (g : Rd w ao an a) (gs : Sl ao an ac) (my : mayA s a = 0) (hp : Rd w po m ps) (hi : inN (itN s) ps) (hm : m ≤ 5000) :
    Calls Tryz.prog 24 #[.agg #[.slice so sn sc, .slice ao an ac], .slice po m pc] w fun e w' => ∃ o1 n1 c1 o2 n2 c2, e = .returned (.agg #[.slice o1 n1 c1, .slice o2 n2 c2]) ∧ Ft 3 w' w.heap.size o1 n1 c1 ((m : Int) :: s.drop 1) ∧ Ft 2 w' w.heap.size o2 n2 c2 (chA (itX s a) ps m) ∧ Below w.heap.size w w' := by
  have hf := (mayA_zero my).1
  have htl := itN_tal hf
  have tb := tal_bd hf
  have hn4 : itN s ≤ 4096 := by omega
  have hsn : sn ≤ 8 := by rw [← h.len]; exact (mayF_zero hf).2.1
  obtain ⟨z, hz⟩ : ∃ z, itmZ s a = z := ⟨_, rfl⟩
  have HX : Hid (∀ k, k < itN s → itX s a k = (s.drop 1, (a.drop (k * z)).take z)) := fun k hk => itX_at my hz hk
  have HR : Hid (∀ V, Below w.heap.size w V → Rd V so sn s ∧ Rd V ao an a ∧ Rd V po m ps) := fun V k => ⟨h.below k (Nat.le_refl _), g.below k (Nat.le_refl _), hp.below k (Nat.le_refl _)⟩
  have HA : Hid (∀ V (j : Nat), Below w.heap.size w V → j < itN s → Calls Tryz.prog 51 #[.agg #[.slice so sn sc, .slice ao an ac], .int .i64 (j : Nat)] V fun e w' => ∃ o1 n1 c1 o2 n2 c2, e = .returned (.agg #[.slice o1 n1 c1, .slice o2 n2 c2]) ∧ Ft 3 w' V.heap.size o1 n1 c1 (itX s a j).1 ∧ Ft 2 w' V.heap.size o2 n2 c2 (itX s a j).2 ∧ Below V.heap.size V w') := fun V j k hj => by
    refine (refAt_any3 so ao sn sc an ac s a V (HR.out V k).1 hs (HR.out V k).2.1 gs my htl.symm hz j hj).mono ?_
    rintro e w' ⟨o1, c1, o2, c2, rfl, f1, f2, kk⟩
    rw [HX.out j hj]
    exact ⟨o1, _, c1, o2, _, c2, rfl, f1, f2, kk⟩
  have al : a.length ≤ 4096 := at_len my
  have HZ : Hid (∀ j, (itX s a j).2.length ≤ 4096) := fun j => by
    show ((a.drop (j * cuz s a (ahd s))).take (cuz s a (ahd s))).length ≤ 4096
    rw [List.length_take, List.length_drop]
    omega
  have HB : Hid (∀ k, (chA (itX s a) ps k).length ≤ k * 4096) := fun k => chA_bd 4096 HZ.out ps k
  have HI : Hid (inN (itN s) ps) := hi
  have HPL : Hid (ps.length = m) := hp.len
  have hRe := fun V k => refRest_any so ao sn sc an ac s V (HR.out V k).1 hs
  have hp2 := hp
  clear h g my hf htl hz HX tb al hi hp
  generalize itN s = N at *
  generalize itX s a = xs at *
  obtain ⟨ds, hds⟩ : ∃ ds, s.drop 1 = ds := ⟨_, rfl⟩
  rw [hds] at hRe ⊢
  clear hds
  have k0 := box_below w (.cells #[.slice so sn sc, .slice ao an ac] 30)
  have n0 := allocNew w (.cells #[.slice so sn sc, .slice ao an ac] 30)
  have kR := box_below (w.alloc (.cells #[.slice so sn sc, .slice ao an ac] 30)) (.cells #[.slice none 0 0, .slice none 0 0] 30)
  have nR := allocNew (w.alloc (.cells #[.slice so sn sc, .slice ao an ac] 30)) (.cells #[.slice none 0 0, .slice none 0 0] 30)
  rw [World.size_alloc] at nR
  have n1 := (kR.block w.heap.size (by simp)).trans n0
  have k1 := k0.trans (kR.mono k0.size)
  obtain ⟨W1, hW1⟩ : ∃ W, W = (w.alloc (.cells #[.slice so sn sc, .slice ao an ac] 30)).alloc (.cells #[.slice none 0 0, .slice none 0 0] 30) := ⟨_, rfl⟩
  have s1 : W1.heap.size = w.heap.size + 2 := by rw [hW1]; simp
  rw [← hW1] at n1 nR k1
  have kM := box_below W1 (.cells #[.int .i64 (m : Int)] 3)
  have fM := ft_new 3 W1 [(m : Int)] (by simp) (num1 (by omega) (by omega))
  have n2 := (kM.block w.heap.size (by omega)).trans n1
  have nR2 := (kM.block (w.heap.size + 1) (by omega)).trans nR
  have k2 := k1.trans (kM.mono k1.size)
  have cR := hRe _ k2
  obtain ⟨x0, x1, _, _⟩ := box2 n2
  have HS1 : Hid (W1.heap.size = w.heap.size + 2) := s1
  clear s1 k0 kR n0 n1 nR k1
  subst hW1
  simp only [World.size_alloc] at fM
  have sM : w.heap.size + 1 + 1 ≤ (((w.alloc (.cells #[.slice so sn sc, .slice ao an ac] 30)).alloc (.cells #[.slice none 0 0, .slice none 0 0] 30)).alloc (.cells #[.int .i64 (m : Int)] 3)).heap.size := by simp
  go_enter Tryz.func24, Tryz.ntmps24
  go_wp2_with (first
    | (go_at_call 52; (with_reducible refine cR.mono ?_); rintro e W3 ⟨ro, rc, rfl, f3, k3⟩; have f4 := fM.below k3 (Nat.le_refl _); have hB3 : w.heap.size + 1 + 1 ≤ W3.heap.size := (Nat.le_trans sM k3.size); have rm3 := f3.rd.room)
    | (at_builtin; refine wpList_joinT tyI rfl _ _ rfl (w.heap.size + 1 + 1) (some ⟨w.heap.size + 1 + 1, 0, none⟩) ro 1 1 (sn - 1) rc [(m : Int)] ds rfl rfl f4 f3.rd f3.sl (by omega) hB3 ?_; intro co cc W5 f5 b5))
  have s1 := HS1.out
  have k4 : Below w.heap.size w W3 := k2.trans (k3.mono k2.size)
  have k5 : Below w.heap.size w W5 := k4.trans (b5.mono (by omega))
  have s5 : W3.heap.size ≤ W5.heap.size := b5.size
  have nA : W5.heap[w.heap.size]? = some (.cells #[.slice so sn sc, .slice ao an ac] 30 (0, 0)) := (b5.block w.heap.size (by omega)).trans ((k3.block w.heap.size (by have := kM.size; omega)).trans n2)
  have nB : W5.heap[w.heap.size + 1]? = some (.cells #[.slice none 0 0, .slice none 0 0] 30 (0, 0)) := (b5.block (w.heap.size + 1) (by omega)).trans ((k3.block (w.heap.size + 1) (by have := kM.size; omega)).trans nR2)
  have w5 : w.heap.size + 1 < W5.heap.size := (Array.getElem?_eq_some_iff.1 nB).1
  have fs5 : Ft 3 W5 w.heap.size co (1 + (sn - 1)) cc ((m : Int) :: ds) := f5.mono (by omega)
  clear x0 x1 cR n2 nR2 k2 kM fM f3 f4 f5 b5 k3 hB3 rm3 k4 s5 HS1 s1 hRe sM
  have kq := box_below W5 (.cells #[.slice co (1 + (sn - 1)) cc, .slice none 0 0] 30)
  have nq := allocNew W5 (.cells #[.slice co (1 + (sn - 1)) cc, .slice none 0 0] 30)
  have sC : W5.heap.size < (W5.alloc (.cells #[.slice co (1 + (sn - 1)) cc, .slice none 0 0] 30)).heap.size := by simp
  generalize W5.alloc (.cells #[.slice co (1 + (sn - 1)) cc, .slice none 0 0] 30) = C at *
  have bC : Below w.heap.size w C := k5.trans (kq.mono k5.size)
  have hq5 : w.heap.size + 1 < W5.heap.size := w5
  generalize hqq : W5.heap.size = q at *
  have nAC := (kq.block w.heap.size (by omega)).trans nA
  have nBC := (kq.block (w.heap.size + 1) (by omega)).trans nB
  have fsC := fs5.below kq (by omega)
  clear hqq nA nB kq k5 fs5 w5
  generalize 1 + (sn - 1) = xn at *
  have G0 : Gw C C q co xn cc none 0 0 (chA xs ps 0) := ⟨nq, Ft.nil _ _ _, ⟨rfl, rfl, rfl, Nat.le_refl _, fun _ _ _ => rfl⟩, sC⟩
  go_loopw [6] (fun i V => ∃ (k kk : Nat) (o : Option Addr) (c : Nat), k ≤ m ∧ i = .int .i64 (k : Nat) ∧ Gw C V q co xn cc o kk c (chA xs ps k)) (fun i _ => m - (intOf i).toNat)
  case atStart => exact ⟨0, 0, none, 0, Nat.zero_le _, rfl, G0⟩
  case round =>
    clear G0
    obtain ⟨k, kk, o, c, hk, rfl, GW⟩ := hrel
    have bV := GW.far bC (by omega)
    have hs' := GW.g.size
    have nV := (GW.g.block w.heap.size (by omega) (by intro e; simp only [Option.some.injEq] at e; omega)).trans nAC
    obtain ⟨z0, z1, _, _⟩ := box2 nV
    obtain ⟨y0, y1, yf, yg⟩ := box2 GW.a
    by_cases hlt : k < m
    · have t1 : decide ((k : Int) < (m : Int)) = true := by simp; omega
      have t2 : (k : Int) < (m : Int) := by omega
      obtain ⟨b, off, rfl, hb2, hcs⟩ := hp2.cells (by omega)
      have c1 := (bV.cell (p := ⟨b, off + k, none⟩) hb2).trans (hcs k hlt)
      have hbC : b < C.heap.size := by have := bC.size; omega
      have hb : b < wr.heap.size := by omega
      have hz := HI.out k (by rw [HPL.out]; exact hlt)
      have HC : Hid (chA xs ps (k + 1) = chA xs ps k ++ (xs (nth ps k).toNat).2) := chA_succ (by rw [HPL.out]; exact hlt)
      have kl := HB.out k
      rw [GW.l.rd.len] at kl
      have zl := HZ.out (nth ps k).toNat
      obtain ⟨j, hj⟩ : ∃ j : Nat, nth ps k = (j : Int) := ⟨(nth ps k).toNat, by omega⟩
      rw [hj] at c1 hz HC zl
      rw [Int.toNat_natCast] at HC zl
      have hjN : j < N := by omega
      have cA := HA.out wr.drew j bV.drew hjN
      clear hcs hj hz
      have HS : wr.drew.cell? ⟨q, 1, none⟩ = some (.slice o kk c) ∧ wr.drew.cell? ⟨b, off + k, none⟩ = some (.int .i64 (j : Int)) ∧ wr.drew.cell? ⟨w.heap.size, 0, none⟩ = some (.slice so sn sc) ∧ wr.drew.cell? ⟨w.heap.size, 1, none⟩ = some (.slice ao an ac) := ⟨y1, c1, z0, z1⟩
      go_wp2
      refine wp_region_R (fun V => V.cell? ⟨q, 1, none⟩ = some (.slice o kk c) ∧ V.cell? ⟨b, off + k, none⟩ = some (.int .i64 (j : Int)) ∧ V.cell? ⟨w.heap.size, 0, none⟩ = some (.slice so sn sc) ∧ V.cell? ⟨w.heap.size, 1, none⟩ = some (.slice ao an ac)) (fun i => i != 11) (by kernel_rfl) ?_
      refine wpAnyR_take (i := 0) (v := .pointer (some ⟨q, 1, none⟩)) rfl (by kernel_rfl) (by kernel_rfl) (by kernel_rfl) (by kernel_rfl) (fun _ _ _ h => h) (Or.inl ⟨by rfl, fun V hV => ?_⟩) ?_ ?_
      · obtain ⟨g0, g1, g2, g3⟩ := hV
        go_simp
      · exact HS
      conv => arg 9; simp [Act.put]
      refine wpAnyR_take (i := 1) (v := .slice o kk c) rfl (by kernel_rfl) (by kernel_rfl) (by kernel_rfl) (by kernel_rfl) (fun _ _ _ h => h) (Or.inl ⟨by rfl, fun V hV => ?_⟩) ?_ ?_
      · obtain ⟨g0, g1, g2, g3⟩ := hV
        go_simp
      · exact HS
      conv => arg 9; simp [Act.put]
      refine wpAnyR_take (i := 2) (v := .agg #[.slice so sn sc, .slice ao an ac]) rfl (by kernel_rfl) (by kernel_rfl) (by kernel_rfl) (by kernel_rfl) (fun _ _ _ h => h) (Or.inl ⟨by rfl, fun V hV => ?_⟩) ?_ ?_
      · obtain ⟨g0, g1, g2, g3⟩ := hV
        go_simp
      · exact HS
      conv => arg 9; simp [Act.put]
      refine wpAnyR_take (i := 3) (v := .slice (some ⟨b, off, none⟩) m pc) rfl (by kernel_rfl) (by kernel_rfl) (by kernel_rfl) (by kernel_rfl) (fun _ _ _ h => h) (Or.inl ⟨by rfl, fun V hV => ?_⟩) ?_ ?_
      · obtain ⟨g0, g1, g2, g3⟩ := hV
        go_simp
      · exact HS
      conv => arg 9; simp [Act.put]
      refine wpAnyR_take (i := 4) (v := .int .i64 (k : Int)) rfl (by kernel_rfl) (by kernel_rfl) (by kernel_rfl) (by kernel_rfl) (fun _ _ _ h => h) (Or.inl ⟨by rfl, fun V hV => ?_⟩) ?_ ?_
      · obtain ⟨g0, g1, g2, g3⟩ := hV
        go_simp
      · exact HS
      conv => arg 9; simp [Act.put]
      refine wpAnyR_take (i := 5) (v := .pointer (some ⟨b, off + k, none⟩)) rfl (by kernel_rfl) (by kernel_rfl) (by kernel_rfl) (by kernel_rfl) (fun _ _ _ h => h) (Or.inl ⟨by rfl, fun V hV => ?_⟩) ?_ ?_
      · obtain ⟨g0, g1, g2, g3⟩ := hV
        go_simp
      · exact HS
      conv => arg 9; simp [Act.put]
      refine wpAnyR_take (i := 6) (v := .int .i64 (j : Int)) rfl (by kernel_rfl) (by kernel_rfl) (by kernel_rfl) (by kernel_rfl) (fun _ _ _ h => h) (Or.inl ⟨by rfl, fun V hV => ?_⟩) ?_ ?_
      · obtain ⟨g0, g1, g2, g3⟩ := hV
        go_simp
      · exact HS
      conv => arg 9; simp [Act.put]
      refine wpAnyR_one (i := 7) (by kernel_rfl) rfl (fun K hK => ?_)
      go_simp
      go_wp2_with (go_at_call 51; (with_reducible refine cA.mono ?_); rintro e V1 ⟨p1, pn1, pc1, p2, pn2, pc2, rfl, h1, h2, kA⟩; have kA' : Below wr.heap.size wr V1 := ((Below.refl wr.heap.size wr).drew).trans kA; have GA := GW.below kA'; have HSA : V1.cell? ⟨q, 1, none⟩ = some (.slice o kk c) ∧ V1.cell? ⟨b, off + k, none⟩ = some (.int .i64 (j : Int)) ∧ V1.cell? ⟨w.heap.size, 0, none⟩ = some (.slice so sn sc) ∧ V1.cell? ⟨w.heap.size, 1, none⟩ = some (.slice ao an ac) := ⟨(box2 GA.a).2.1, (kA'.cell (p := ⟨b, off + k, none⟩) hb).trans c1, (kA'.cell (p := ⟨w.heap.size, 0, none⟩) (show w.heap.size < wr.heap.size by omega)).trans z0, (kA'.cell (p := ⟨w.heap.size, 1, none⟩) (show w.heap.size < wr.heap.size by omega)).trans z1⟩; refine hK _ _ ⟨fun _ => HSA, ?_⟩; clear hK)
      conv => arg 9; simp [Act.put]
      refine wpAnyR_take (i := 8) (v := .slice p2 pn2 pc2) rfl (by kernel_rfl) (by kernel_rfl) (by kernel_rfl) (by kernel_rfl) (fun _ _ _ h => h) (Or.inl ⟨by rfl, fun V hV => ?_⟩) ?_ ?_
      · obtain ⟨g0, g1, g2, g3⟩ := hV
        go_simp
        rw [runF]
        rfl
      · exact HSA
      conv => arg 9; simp [Act.put]
      refine wpAnyR_one (i := 9) (by kernel_rfl) rfl (fun K hK => ?_)
      have l2 := h2.rd.len
      refine step_joinW tyL rfl (.tmp 21) (.tmp 28) rfl C.heap.size (kk + pn2) o p2 kk c pn2 pc2 (chA xs ps k) (xs j).2 rfl (by simp [Act.eval]) (by simp [Act.eval]) GA.l h2.rd h2.sl (by omega) GA.g.size ?_
      intro co9 cc9 W9 f9 g9 a9
      have b9' := ft_grows GA.l g9 GA.g.size
      have b9 : Below C.heap.size wr W9 := (kA'.mono hs').trans b9'
      have q9 := (b9.block q sC).trans GW.a
      have HS9 : W9.cell? ⟨q, 1, none⟩ = some (.slice o kk c) ∧ W9.cell? ⟨b, off + k, none⟩ = some (.int .i64 (j : Int)) ∧ W9.cell? ⟨w.heap.size, 0, none⟩ = some (.slice so sn sc) ∧ W9.cell? ⟨w.heap.size, 1, none⟩ = some (.slice ao an ac) := ⟨(box2 q9).2.1, (b9'.cell (p := ⟨b, off + k, none⟩) hbC).trans HSA.2.1, (b9'.cell (p := ⟨w.heap.size, 0, none⟩) (show w.heap.size < C.heap.size by omega)).trans HSA.2.2.1, (b9'.cell (p := ⟨w.heap.size, 1, none⟩) (show w.heap.size < C.heap.size by omega)).trans HSA.2.2.2⟩
      have F9 := (box2 q9).2.2.2
      refine hK _ _ ⟨fun _ => HS9, ?_⟩
      clear hK
      conv => arg 9; simp [Act.put]
      refine wpAnyR_one (i := 10) (by kernel_rfl) rfl (fun K hK => ?_)
      go_simp
      refine hK _ _ ⟨fun _ => HS9, ?_⟩
      clear hK
      conv => arg 9; simp [Act.put]
      refine wpAnyR_one (i := 11) (by kernel_rfl) rfl (fun K hK => ?_)
      go_simp
      refine hK _ _ ⟨fun h => absurd h (by decide), ?_⟩
      clear hK
      refine wpAnyR_done (by kernel_rfl) ?_ _
      go_wp2
      go_roundw
      case measure => simp [intOf]; omega
      case rel =>
        refine ⟨k + 1, kk + pn2, co9, cc9, by omega, by go_num, ?_⟩
        rw [HC.out]
        exact gw_step GW b9 f9
    · obtain rfl : k = m := by omega
      have t1 : decide ((k : Int) < (k : Int)) = false := by simp
      have rV := (GW.g.block (w.heap.size + 1) (by omega) (by intro e; simp only [Option.some.injEq] at e; omega)).trans nBC
      obtain ⟨x0, x1, xf, xg⟩ := box2 rV
      go_wp2
      (try simp only [Exit.inBlock, Exit.then])
      refine bodyPost_ret (v := .agg #[.slice co xn cc, .slice o kk c]) (by simp [results, Tryz.results24]; go_simp) rfl ?_
      have e := ends2 (w := w) (.slice co xn cc) (.slice o kk c) (GW.sh fsC nq) GW.l (Nat.le_refl _) (by omega) rV (by omega) (GW.far bC (by omega))
      exact ⟨_, _, _, _, _, _, rfl, e.1, e.2.1, e.2.2⟩
end Go.Proofs.YtmepcenbaohcoaaGreat
