
/- The document's answers for package seek: classes. -/

import Derived.Test.YtmepcenbaohcoaaGreatRSi

import Derived.Test.YtmepcenbaohcoaaGreatSFa

namespace Go.Proofs.YtmepcenbaohcoaaGreat

open Go.RowKit

set_option linter.unusedVariables false

theorem nwo_first {xs : Nat → List Int × List Int} {n i p j : Nat} (hi : i < (nwo (fsL xs n) n).length) (hp : nth (nwo (fsL xs n) n) i = (p : Int)) (hj : j < n) : p < n ∧ ((nth (nwo (fsL xs n) n) i == nth (fsL xs n) j) = true ↔ xs p = xs j) := by
  have hm := nth_mem hi
  unfold nwo at hm
  rw [List.mem_map] at hm
  obtain ⟨q, hq, e⟩ := hm
  rw [List.mem_filter, List.mem_range] at hq
  obtain ⟨q1, q2⟩ := hq
  have q3 : nth (fsL xs n) q = (q : Int) := by simpa using q2
  have ep : q = p := by
    have : (q : Int) = (p : Int) := by rw [← hp]; exact e
    omega
  subst ep
  rw [fsL_nth q1] at q3
  have fq : fsq xs n (xs q) = q := by omega
  refine ⟨q1, ?_⟩
  rw [hp, fsL_nth hj]
  constructor
  · intro h
    have h2 : q = fsq xs n (xs j) := by have := of_decide_eq_true (by simpa using h : decide ((q : Int) = ((fsq xs n (xs j) : Nat) : Int)) = true); omega
    have := (fsq_is xs n (xs j)).yes (by omega)
    rw [← h2] at this
    exact this
  · intro h
    rw [← h, fq]
    simp
theorem mayF_alt (m n : Nat) : mayF [(m : Int), (n : Int)] = 0 ∨ mayF [(m : Int), (n : Int)] = 17 := by
  have h : ([(m : Int), (n : Int)].any fun z => decide (z < 0)) = false := by
    have h1 : ¬ (m : Int) < 0 := by omega
    have h2 : ¬ (n : Int) < 0 := by omega
    simp [h1, h2]
  unfold mayF
  rw [h, if_neg (by decide)]
  split
  · exact .inr rfl
  · split
    · exact .inr rfl
    · exact .inl rfl
def okL (E : Int) (l : List Int) : List Int := if E = 0 then l else []
theorem okL_ok {E : Int} (h : E = 0) (l : List Int) : okL E l = l := if_pos h
theorem okL_no {E : Int} (h : E ≠ 0) (l : List Int) : okL E l = [] := if_neg h
set_option maxHeartbeats 8000000 in
set_option maxRecDepth 20000 in
theorem refClasses7 (lo : Option Addr) (n lc : Nat) (xs : Nat → List Int × List Int) (w : World) (h : AsQ w lo n xs) (hn : n ≤ 4096) (nb : List Int) (hnb : nwo (fsL xs n) n = nb) (E : Int) (hE : mayF [(nb.length : Int), (n : Int)] = E) :
    Calls Tryz.prog 28 #[.slice lo n lc] w fun e w' => ∃ o1 n1 c1 o2 n2 c2, e = .returned (.tuple #[.agg #[.slice o1 n1 c1, .slice o2 n2 c2], .int .i64 E]) ∧ Ft 3 w' w.heap.size o1 n1 c1 (okL E [(nb.length : Int), (n : Int)]) ∧ Ft 2 w' w.heap.size o2 n2 c2 (okL E (ckL nb (fsL xs n) n)) ∧ Below w.heap.size w w' := by
  have k0 := box_below w (.cells #[.slice none 0 0, .slice none 0 0] 30)
  have n0 := allocNew w (.cells #[.slice none 0 0, .slice none 0 0] 30)
  have cN := refNub7 lo n lc xs _ (h.below k0 (Nat.le_refl _)) hn
  have hl := nwo_len (fsL xs n) n
  rw [hnb] at cN hl
  have HF : Hid (∀ i p j : Nat, i < nb.length → nth nb i = (p : Int) → j < n → p < n ∧ ((nth nb i == nth (fsL xs n) j) = true ↔ xs p = xs j)) := fun i p j h1 h2 h3 => by
    rw [← hnb] at h1 h2 ⊢
    exact nwo_first h1 h2 h3
  have HB : Hid (∀ i, i < nb.length → 0 ≤ nth nb i) := fun i hi => by rw [← hnb] at hi ⊢; exact (nwo_mem (nth_mem hi)).1
  have HCL : Hid ((ckL nb (fsL xs n) n).length = nb.length * n) := ckL_len _ _ _
  have HCN : Hid (∀ i j, i < nb.length → j < n → nth (ckL nb (fsL xs n) n) (i * n + j) = if (nth nb i == nth (fsL xs n) j) = true then 1 else 0) := fun i j hi hj => ckL_nth hi hj
  generalize ckL nb (fsL xs n) n = es at *
  obtain ⟨m, hm⟩ : ∃ m, nb.length = m := ⟨_, rfl⟩
  have HNL : Hid (nb.length = m) := hm
  rw [hm] at cN hl HF HB HCL HCN hE ⊢
  have HA : Hid (∀ V, Below w.heap.size w V → AsQ V lo n xs) := fun V k => h.below k (Nat.le_refl _)
  have HE : Hid (mayF [(m : Int), (n : Int)] = E) := hE
  clear h hm hE hnb
  by_cases hz : E = 0
  · subst hz
    rw [okL_ok rfl, okL_ok rfl]
    have hpr : (m : Int) * (n : Int) ≤ 4096 := by
      have := (prG_bd HE.out).2
      rw [show pr [(m : Int), (n : Int)] = (m : Int) * (n : Int) by simp [pr]] at this
      exact this
    have hmn : m * n ≤ 4096 := by
      have : ((m * n : Nat) : Int) ≤ 4096 := by rw [Int.natCast_mul]; exact hpr
      omega
    clear hpr
    go_enter Tryz.func28, Tryz.ntmps28
    go_wp2_with (first
      | (go_at_call 25; (with_reducible refine cN.mono ?_); rintro e V1 ⟨no, nc, rfl, fn, k1⟩; have b1 := k0.trans (k1.mono k0.size); have m1 := (k1.block w.heap.size (by simp)).trans n0; have kS := box_below V1 (.cells #[.int .i64 (m : Int), .int .i64 (n : Int)] 3); have fS := ft_new 3 V1 [(m : Int), (n : Int)] (by simp) (fun k hk => (by match k, hk with | 0, _ => exact ⟨(by show _ ≤ (m : Int); omega), (by show (m : Int) ≤ _; omega)⟩ | 1, _ => exact ⟨(by show _ ≤ (n : Int); omega), (by show (n : Int) ≤ _; omega)⟩)); have kq := box_below (V1.alloc (.cells #[.int .i64 (m : Int), .int .i64 (n : Int)] 3)) (.cells #[.slice (some ⟨V1.heap.size, 0, none⟩) 2 2, .slice none 0 0] 30); have nq := allocNew (V1.alloc (.cells #[.int .i64 (m : Int), .int .i64 (n : Int)] 3)) (.cells #[.slice (some ⟨V1.heap.size, 0, none⟩) 2 2, .slice none 0 0] 30); have fC := fS.below kq (Nat.le_refl _); rw [World.size_alloc] at nq; obtain ⟨y0, y1, _, _⟩ := box2 nq; have cY := refMay_any (some ⟨V1.heap.size, 0, none⟩) 2 2 [(m : Int), (n : Int)] _ fC.rd; rw [HE.out] at cY)
      | (go_at_call 53; (with_reducible refine cY.mono ?_); rintro e V2 ⟨rfl, hV⟩; rw [hV]; clear hV))
    have kC := kS.trans (kq.mono kS.size)
    have rC := (kC.block w.heap.size (Array.getElem?_eq_some_iff.1 m1).1).trans m1
    have fnC := fn.below kC (Nat.le_refl _)
    have bC := b1.trans (kC.mono b1.size)
    have hq1 : w.heap.size < V1.heap.size := (Array.getElem?_eq_some_iff.1 m1).1
    have sC : V1.heap.size + 1 < ((V1.alloc (.cells #[.int .i64 (m : Int), .int .i64 (n : Int)] 3)).alloc (.cells #[.slice (some ⟨V1.heap.size, 0, none⟩) 2 2, .slice none 0 0] 30)).heap.size := by simp
    clear y0 y1 cY kS fS kq m1
    generalize (V1.alloc (.cells #[.int .i64 (m : Int), .int .i64 (n : Int)] 3)).alloc (.cells #[.slice (some ⟨V1.heap.size, 0, none⟩) 2 2, .slice none 0 0] 30) = C at *
    have hs1 : V1.heap.size ≤ V1.heap.size + 1 := by omega
    have G0 : Gw C C (V1.heap.size + 1) (some ⟨V1.heap.size, 0, none⟩) 2 2 none 0 0 (es.take 0) := ⟨nq, Ft.nil _ _ _, ⟨rfl, rfl, rfl, Nat.le_refl _, fun _ _ _ => rfl⟩, sC⟩
    have kV1 : Below V1.heap.size V1 C := kC
    clear kC
    go_loopw [6] (fun i V => ∃ (k kk : Nat) (o : Option Addr) (c : Nat), k ≤ m ∧ kk = k * n ∧ i = .int .i64 (k : Nat) ∧ Gw C V (V1.heap.size + 1) (some ⟨V1.heap.size, 0, none⟩) 2 2 o kk c (es.take kk)) (fun i _ => m - (intOf i).toNat)
    case atStart => exact ⟨0, 0, none, 0, Nat.zero_le _, by omega, rfl, G0⟩
    case round =>
      clear G0
      obtain ⟨k, kk, o, c, hk, hkk, rfl, GW0⟩ := hrel
      have HKK : Hid (kk = k * n) := hkk
      clear hkk
      by_cases hlt : k < m
      · have t1 : decide ((k : Int) < (m : Int)) = true := by simp; omega
        have t2 : (k : Int) < (m : Int) := by omega
        go_wp2
        go_loopw [7] (fun i V => ∃ (j k2 : Nat) (o : Option Addr) (c : Nat), j ≤ n ∧ k2 = k * n + j ∧ i = .int .i64 (j : Nat) ∧ Gw C V (V1.heap.size + 1) (some ⟨V1.heap.size, 0, none⟩) 2 2 o k2 c (es.take k2)) (fun i _ => n - (intOf i).toNat)
        case atStart => exact ⟨0, kk, o, c, Nat.zero_le _, by rw [HKK.out]; rfl, rfl, GW0⟩
        case round =>
          clear GW0
          obtain ⟨j, k2, o, c, hj, hk2, rfl, GW⟩ := hrel
          have HK2 : Hid (k2 = k * n + j) := hk2
          have hb4 : k2 ≤ 4096 := by
            have : (k + 1) * n ≤ m * n := Nat.mul_le_mul_right _ (by omega)
            rw [Nat.succ_mul] at this
            omega
          clear hk2
          by_cases hlj : j < n
          · have bV := GW.far kV1 hs1
            have hs' := GW.g.size
            obtain ⟨y0, y1, yf, yg⟩ := box2 GW.a
            have t3 : decide ((j : Int) < (n : Int)) = true := by simp; omega
            have t4 : (j : Int) < (n : Int) := by omega
            obtain ⟨pp, hpp⟩ : ∃ pp : Nat, nth nb k = (pp : Int) := ⟨(nth nb k).toNat, by have := HB.out k hlt; omega⟩
            obtain ⟨ppn, hiff⟩ := HF.out k pp j hlt hpp hlj
            obtain ⟨gb, eno, hg1, hg2, _, hgc⟩ := ft_cells fn (by omega)
            subst eno
            have d0 := (bV.cell (p := ⟨gb, k, none⟩) hg2).trans (hgc k hlt)
            rw [hpp] at d0
            have AV1 := HA.out V1 b1
            obtain ⟨b, off, rfl, hb2, hcs⟩ := AV1.cells (by omega)
            obtain ⟨eo, en, ec, fo, fn', fc, q0, q1, r0, _, r1, _⟩ := hcs pp ppn
            obtain ⟨eo', en', ec', fo', fn'', fc', q0', q1', r0', _, r1', _⟩ := hcs j hlj
            have bd := bV.drew
            have cS := refSame_any eo fo eo' fo' en ec fn' fc en' ec' fn'' fc' (xs pp).1 (xs pp).2 (xs j).1 (xs j).2 wr.drew (r0.below bd (Nat.le_refl _)) (r1.below bd (Nat.le_refl _)) (r0'.below bd (Nat.le_refl _)) (r1'.below bd (Nat.le_refl _))
            have tpp : (pp : Int) < (n : Int) := by omega
            have z0 := (bV.cell (p := ⟨b, off + pp * 2, none⟩) hb2).trans q0
            have z1 := (bV.cell (p := ⟨b, off + pp * 2 + 1, none⟩) hb2).trans q1
            have z2 := (bV.cell (p := ⟨b, off + j * 2, none⟩) hb2).trans q0'
            have z3 := (bV.cell (p := ⟨b, off + j * 2 + 1, none⟩) hb2).trans q1'
            have hbw : b < wr.heap.size := Nat.lt_of_lt_of_le hb2 bV.size
            have hgw : gb < wr.heap.size := Nat.lt_of_lt_of_le hg2 bV.size
            have hbC : b < C.heap.size := Nat.lt_of_lt_of_le hb2 kV1.size
            have hgC : gb < C.heap.size := Nat.lt_of_lt_of_le hg2 kV1.size
            obtain ⟨bo, hbo⟩ : ∃ bo, eqA (xs pp).1 (xs pp).2 (xs j).1 (xs j).2 = bo := ⟨_, rfl⟩
            rw [hbo] at cS
            have cO := fun V => refOne7 bo V
            have hv : nth es k2 = if bo = true then 1 else 0 := by
              rw [HK2.out, HCN.out k j hlt hlj]
              by_cases e : xs pp = xs j
              · rw [if_pos (hiff.2 e), if_pos (by rw [← hbo]; exact eqP_yes e)]
              · rw [if_neg (fun q => e (hiff.1 q)), if_neg (by rw [← hbo, eqP_no e]; decide)]
            obtain ⟨v, hvv⟩ : ∃ v : Int, (if bo = true then (1 : Int) else 0) = v := ⟨_, rfl⟩
            rw [hvv] at cO hv
            have vb : -9223372036854775808 ≤ v ∧ v ≤ 9223372036854775807 := by rw [← hvv]; split <;> omega
            have HT : Hid (es.take k2 ++ [v] = es.take (k2 + 1)) := by
              show _ = _
              rw [← hv]
              refine take_more ?_
              rw [HCL.out, HK2.out]
              have : (k + 1) * n ≤ m * n := Nat.mul_le_mul_right _ (by omega)
              rw [Nat.succ_mul] at this
              omega
            clear hcs r0 r1 r0' r1' q0 q1 q0' q1' hgc AV1 hpp hiff hbo hv hvv
            have HS : wr.drew.cell? ⟨V1.heap.size + 1, 1, none⟩ = some (.slice o k2 c) ∧ wr.drew.cell? ⟨gb, k, none⟩ = some (.int .i64 (pp : Int)) ∧ wr.drew.cell? ⟨b, off + pp * 2, none⟩ = some (.slice eo en ec) ∧ wr.drew.cell? ⟨b, off + pp * 2 + 1, none⟩ = some (.slice fo fn' fc) ∧ wr.drew.cell? ⟨b, off + j * 2, none⟩ = some (.slice eo' en' ec') ∧ wr.drew.cell? ⟨b, off + j * 2 + 1, none⟩ = some (.slice fo' fn'' fc') := ⟨y1, d0, z0, z1, z2, z3⟩
            go_wp2
            refine wp_region_R (fun V => V.cell? ⟨V1.heap.size + 1, 1, none⟩ = some (.slice o k2 c) ∧ V.cell? ⟨gb, k, none⟩ = some (.int .i64 (pp : Int)) ∧ V.cell? ⟨b, off + pp * 2, none⟩ = some (.slice eo en ec) ∧ V.cell? ⟨b, off + pp * 2 + 1, none⟩ = some (.slice fo fn' fc) ∧ V.cell? ⟨b, off + j * 2, none⟩ = some (.slice eo' en' ec') ∧ V.cell? ⟨b, off + j * 2 + 1, none⟩ = some (.slice fo' fn'' fc')) (fun i => i != 18) (by kernel_rfl) ?_
            refine wpAnyR_take (i := 0) (v := .pointer (some ⟨V1.heap.size + 1, 1, none⟩)) rfl (by kernel_rfl) (by kernel_rfl) (by kernel_rfl) (by kernel_rfl) (fun _ _ _ h => h) (Or.inl ⟨by rfl, fun V hV => ?_⟩) ?_ ?_
            · obtain ⟨g0, g1, g2, g3, g4, g5⟩ := hV
              go_simp
            · exact HS
            conv => arg 9; simp [Act.put]
            refine wpAnyR_take (i := 1) (v := .slice o k2 c) rfl (by kernel_rfl) (by kernel_rfl) (by kernel_rfl) (by kernel_rfl) (fun _ _ _ h => h) (Or.inl ⟨by rfl, fun V hV => ?_⟩) ?_ ?_
            · obtain ⟨g0, g1, g2, g3, g4, g5⟩ := hV
              go_simp
            · exact HS
            conv => arg 9; simp [Act.put]
            refine wpAnyR_take (i := 2) (v := .slice (some ⟨b, off, none⟩) n lc) rfl (by kernel_rfl) (by kernel_rfl) (by kernel_rfl) (by kernel_rfl) (fun _ _ _ h => h) (Or.inl ⟨by rfl, fun V hV => ?_⟩) ?_ ?_
            · obtain ⟨g0, g1, g2, g3, g4, g5⟩ := hV
              go_simp
            · exact HS
            conv => arg 9; simp [Act.put]
            refine wpAnyR_take (i := 3) (v := .slice (some ⟨gb, 0, none⟩) m nc) rfl (by kernel_rfl) (by kernel_rfl) (by kernel_rfl) (by kernel_rfl) (fun _ _ _ h => h) (Or.inl ⟨by rfl, fun V hV => ?_⟩) ?_ ?_
            · obtain ⟨g0, g1, g2, g3, g4, g5⟩ := hV
              go_simp
            · exact HS
            conv => arg 9; simp [Act.put]
            refine wpAnyR_take (i := 4) (v := .int .i64 (k : Int)) rfl (by kernel_rfl) (by kernel_rfl) (by kernel_rfl) (by kernel_rfl) (fun _ _ _ h => h) (Or.inl ⟨by rfl, fun V hV => ?_⟩) ?_ ?_
            · obtain ⟨g0, g1, g2, g3, g4, g5⟩ := hV
              go_simp
            · exact HS
            conv => arg 9; simp [Act.put]
            refine wpAnyR_take (i := 5) (v := .pointer (some ⟨gb, k, none⟩)) rfl (by kernel_rfl) (by kernel_rfl) (by kernel_rfl) (by kernel_rfl) (fun _ _ _ h => h) (Or.inl ⟨by rfl, fun V hV => ?_⟩) ?_ ?_
            · obtain ⟨g0, g1, g2, g3, g4, g5⟩ := hV
              go_simp
            · exact HS
            conv => arg 9; simp [Act.put]
            refine wpAnyR_take (i := 6) (v := .int .i64 (pp : Int)) rfl (by kernel_rfl) (by kernel_rfl) (by kernel_rfl) (by kernel_rfl) (fun _ _ _ h => h) (Or.inl ⟨by rfl, fun V hV => ?_⟩) ?_ ?_
            · obtain ⟨g0, g1, g2, g3, g4, g5⟩ := hV
              go_simp
            · exact HS
            conv => arg 9; simp [Act.put]
            refine wpAnyR_take (i := 7) (v := .pointer (some ⟨b, off + pp * 2, none⟩)) rfl (by kernel_rfl) (by kernel_rfl) (by kernel_rfl) (by kernel_rfl) (fun _ _ _ h => h) (Or.inl ⟨by rfl, fun V hV => ?_⟩) ?_ ?_
            · obtain ⟨g0, g1, g2, g3, g4, g5⟩ := hV
              go_simp
            · exact HS
            conv => arg 9; simp [Act.put]
            refine wpAnyR_take (i := 8) (v := .agg #[.slice eo en ec, .slice fo fn' fc]) rfl (by kernel_rfl) (by kernel_rfl) (by kernel_rfl) (by kernel_rfl) (fun _ _ _ h => h) (Or.inl ⟨by rfl, fun V hV => ?_⟩) ?_ ?_
            · obtain ⟨g0, g1, g2, g3, g4, g5⟩ := hV
              go_simp
            · exact HS
            conv => arg 9; simp [Act.put]
            refine wpAnyR_take (i := 9) (v := .slice (some ⟨b, off, none⟩) n lc) rfl (by kernel_rfl) (by kernel_rfl) (by kernel_rfl) (by kernel_rfl) (fun _ _ _ h => h) (Or.inl ⟨by rfl, fun V hV => ?_⟩) ?_ ?_
            · obtain ⟨g0, g1, g2, g3, g4, g5⟩ := hV
              go_simp
            · exact HS
            conv => arg 9; simp [Act.put]
            refine wpAnyR_take (i := 10) (v := .int .i64 (j : Int)) rfl (by kernel_rfl) (by kernel_rfl) (by kernel_rfl) (by kernel_rfl) (fun _ _ _ h => h) (Or.inl ⟨by rfl, fun V hV => ?_⟩) ?_ ?_
            · obtain ⟨g0, g1, g2, g3, g4, g5⟩ := hV
              go_simp
            · exact HS
            conv => arg 9; simp [Act.put]
            refine wpAnyR_take (i := 11) (v := .pointer (some ⟨b, off + j * 2, none⟩)) rfl (by kernel_rfl) (by kernel_rfl) (by kernel_rfl) (by kernel_rfl) (fun _ _ _ h => h) (Or.inl ⟨by rfl, fun V hV => ?_⟩) ?_ ?_
            · obtain ⟨g0, g1, g2, g3, g4, g5⟩ := hV
              go_simp
            · exact HS
            conv => arg 9; simp [Act.put]
            refine wpAnyR_take (i := 12) (v := .agg #[.slice eo' en' ec', .slice fo' fn'' fc']) rfl (by kernel_rfl) (by kernel_rfl) (by kernel_rfl) (by kernel_rfl) (fun _ _ _ h => h) (Or.inl ⟨by rfl, fun V hV => ?_⟩) ?_ ?_
            · obtain ⟨g0, g1, g2, g3, g4, g5⟩ := hV
              go_simp
            · exact HS
            conv => arg 9; simp [Act.put]
            refine wpAnyR_one (i := 13) (by kernel_rfl) rfl (fun K hK => ?_)
            go_simp
            go_wp2_with (go_at_call 36; (with_reducible refine cS.mono ?_); rintro e V5 ⟨rfl, k5⟩; have kA : Below wr.heap.size wr V5 := ((Below.refl wr.heap.size wr).drew).trans k5; have GA := GW.below kA; have HSA : V5.cell? ⟨V1.heap.size + 1, 1, none⟩ = some (.slice o k2 c) ∧ V5.cell? ⟨gb, k, none⟩ = some (.int .i64 (pp : Int)) ∧ V5.cell? ⟨b, off + pp * 2, none⟩ = some (.slice eo en ec) ∧ V5.cell? ⟨b, off + pp * 2 + 1, none⟩ = some (.slice fo fn' fc) ∧ V5.cell? ⟨b, off + j * 2, none⟩ = some (.slice eo' en' ec') ∧ V5.cell? ⟨b, off + j * 2 + 1, none⟩ = some (.slice fo' fn'' fc') := ⟨(box2 GA.a).2.1, (kA.cell (p := ⟨gb, k, none⟩) hgw).trans d0, (kA.cell (p := ⟨b, off + pp * 2, none⟩) hbw).trans z0, (kA.cell (p := ⟨b, off + pp * 2 + 1, none⟩) hbw).trans z1, (kA.cell (p := ⟨b, off + j * 2, none⟩) hbw).trans z2, (kA.cell (p := ⟨b, off + j * 2 + 1, none⟩) hbw).trans z3⟩; refine hK _ _ ⟨fun _ => HSA, ?_⟩; clear hK)
            conv => arg 9; simp [Act.put]
            refine wpAnyR_one (i := 14) (by kernel_rfl) rfl (fun K hK => ?_)
            go_simp
            go_wp2_with (go_at_call 26; (with_reducible refine (cO V5).mono ?_); rintro e V6 ⟨rfl, hV6⟩; rw [hV6]; clear hV6; refine hK _ _ ⟨fun _ => HSA, ?_⟩; clear hK)
            conv => arg 9; simp [Act.put]
            refine wpAnyR_one (i := 15) (by kernel_rfl) rfl (fun K hK => ?_)
            have F1 := newL V5 v vb.1 vb.2
            have kb := box_below V5 (.cells #[.int .i64 v] 2)
            have kB : Below wr.heap.size wr (V5.alloc (.cells #[.int .i64 v] 2)) := kA.trans (kb.mono kA.size)
            have GB := GW.below kB
            have HSB : (V5.alloc (.cells #[.int .i64 v] 2)).cell? ⟨V1.heap.size + 1, 1, none⟩ = some (.slice o k2 c) ∧ (V5.alloc (.cells #[.int .i64 v] 2)).cell? ⟨gb, k, none⟩ = some (.int .i64 (pp : Int)) ∧ (V5.alloc (.cells #[.int .i64 v] 2)).cell? ⟨b, off + pp * 2, none⟩ = some (.slice eo en ec) ∧ (V5.alloc (.cells #[.int .i64 v] 2)).cell? ⟨b, off + pp * 2 + 1, none⟩ = some (.slice fo fn' fc) ∧ (V5.alloc (.cells #[.int .i64 v] 2)).cell? ⟨b, off + j * 2, none⟩ = some (.slice eo' en' ec') ∧ (V5.alloc (.cells #[.int .i64 v] 2)).cell? ⟨b, off + j * 2 + 1, none⟩ = some (.slice fo' fn'' fc') := ⟨(box2 GB.a).2.1, (kB.cell (p := ⟨gb, k, none⟩) hgw).trans d0, (kB.cell (p := ⟨b, off + pp * 2, none⟩) hbw).trans z0, (kB.cell (p := ⟨b, off + pp * 2 + 1, none⟩) hbw).trans z1, (kB.cell (p := ⟨b, off + j * 2, none⟩) hbw).trans z2, (kB.cell (p := ⟨b, off + j * 2 + 1, none⟩) hbw).trans z3⟩
            go_simp
            refine hK _ _ ⟨fun _ => HSB, ?_⟩
            clear hK
            conv => arg 9; simp [Act.put]
            refine wpAnyR_one (i := 16) (by kernel_rfl) rfl (fun K hK => ?_)
            refine step_joinW tyL rfl (.tmp 34) (.tmp 48) rfl C.heap.size (k2 + 1) o (some ⟨V5.heap.size, 0, none⟩) k2 c 1 1 (es.take k2) [v] rfl (by simp [Act.eval]) (by simp [Act.eval]) GB.l F1.rd F1.sl (by omega) GB.g.size ?_
            intro co9 cc9 W9 f9 g9 a9
            have b9' := ft_grows GB.l g9 GB.g.size
            have b9 : Below C.heap.size wr W9 := (kB.mono hs').trans b9'
            have q9 := (b9.block (V1.heap.size + 1) sC).trans GW.a
            have HS9 : W9.cell? ⟨V1.heap.size + 1, 1, none⟩ = some (.slice o k2 c) ∧ W9.cell? ⟨gb, k, none⟩ = some (.int .i64 (pp : Int)) ∧ W9.cell? ⟨b, off + pp * 2, none⟩ = some (.slice eo en ec) ∧ W9.cell? ⟨b, off + pp * 2 + 1, none⟩ = some (.slice fo fn' fc) ∧ W9.cell? ⟨b, off + j * 2, none⟩ = some (.slice eo' en' ec') ∧ W9.cell? ⟨b, off + j * 2 + 1, none⟩ = some (.slice fo' fn'' fc') := ⟨(box2 q9).2.1, (b9.cell (p := ⟨gb, k, none⟩) hgC).trans d0, (b9.cell (p := ⟨b, off + pp * 2, none⟩) hbC).trans z0, (b9.cell (p := ⟨b, off + pp * 2 + 1, none⟩) hbC).trans z1, (b9.cell (p := ⟨b, off + j * 2, none⟩) hbC).trans z2, (b9.cell (p := ⟨b, off + j * 2 + 1, none⟩) hbC).trans z3⟩
            have F9 := (box2 q9).2.2.2
            refine hK _ _ ⟨fun _ => HS9, ?_⟩
            clear hK
            conv => arg 9; simp [Act.put]
            refine wpAnyR_one (i := 17) (by kernel_rfl) rfl (fun K hK => ?_)
            go_simp
            refine hK _ _ ⟨fun _ => HS9, ?_⟩
            clear hK
            conv => arg 9; simp [Act.put]
            refine wpAnyR_one (i := 18) (by kernel_rfl) rfl (fun K hK => ?_)
            go_simp
            refine hK _ _ ⟨fun h => absurd h (by decide), ?_⟩
            clear hK
            refine wpAnyR_done (by kernel_rfl) ?_ _
            go_wp2
            go_roundw
            case measure => simp [intOf]; omega
            case rel =>
              refine ⟨j + 1, k2 + 1, co9, cc9, by omega, by rw [HK2.out]; omega, by go_num, ?_⟩
              rw [← HT.out]
              exact gw_step GW b9 f9
          · obtain rfl : j = n := by omega
            have t3 : decide ((j : Int) < (j : Int)) = false := by simp
            go_wp2
            go_roundw
            case measure => simp [intOf]; omega
            case rel => exact ⟨k + 1, k2, o, c, by omega, by rw [HK2.out, Nat.succ_mul], by go_num, GW⟩
      · obtain rfl : k = m := by omega
        have t1 : decide ((k : Int) < (k : Int)) = false := by simp
        have rV := (GW0.g.block w.heap.size (by omega) (by intro e; simp only [Option.some.injEq] at e; omega)).trans rC
        obtain ⟨x0, x1, xf, xg⟩ := box2 rV
        obtain ⟨y0, y1, yf, yg⟩ := box2 GW0.a
        go_wp2
        (try simp only [Exit.inBlock, Exit.then])
        refine bodyPost_ret (v := .tuple #[.agg #[.slice (some ⟨V1.heap.size, 0, none⟩) 2 2, .slice o kk c], .int .i64 0]) (by rw [results_cell_tmp rfl]; go_simp) rfl ?_
        have e := ends2 (w := w) (.slice (some ⟨V1.heap.size, 0, none⟩) 2 2) (.slice o kk c) (GW0.sh fC nq) GW0.l b1.size (by omega) rV (Nat.le_refl _) (GW0.far bC (by omega))
        rw [List.take_of_length_le (by rw [HCL.out, HKK.out]; exact Nat.le_refl _)] at e
        exact ⟨_, _, _, _, _, _, rfl, e.1, e.2.1, e.2.2⟩
  · have e17 : E = 17 := by
      have := mayF_alt m n
      rw [HE.out] at this
      exact this.resolve_left hz
    subst e17
    rw [okL_no (by decide), okL_no (by decide)]
    go_enter Tryz.func28, Tryz.ntmps28
    go_wp2_with (first
      | (go_at_call 25; (with_reducible refine cN.mono ?_); rintro e V1 ⟨no, nc, rfl, fn, k1⟩; have b1 := k0.trans (k1.mono k0.size); have m1 := (k1.block w.heap.size (by simp)).trans n0; have kS := box_below V1 (.cells #[.int .i64 (m : Int), .int .i64 (n : Int)] 3); have fS := ft_new 3 V1 [(m : Int), (n : Int)] (by simp) (fun k hk => (by match k, hk with | 0, _ => exact ⟨(by show _ ≤ (m : Int); omega), (by show (m : Int) ≤ _; omega)⟩ | 1, _ => exact ⟨(by show _ ≤ (n : Int); omega), (by show (n : Int) ≤ _; omega)⟩)); have kq := box_below (V1.alloc (.cells #[.int .i64 (m : Int), .int .i64 (n : Int)] 3)) (.cells #[.slice (some ⟨V1.heap.size, 0, none⟩) 2 2, .slice none 0 0] 30); have nq := allocNew (V1.alloc (.cells #[.int .i64 (m : Int), .int .i64 (n : Int)] 3)) (.cells #[.slice (some ⟨V1.heap.size, 0, none⟩) 2 2, .slice none 0 0] 30); have fC := fS.below kq (Nat.le_refl _); rw [World.size_alloc] at nq; obtain ⟨y0, y1, _, _⟩ := box2 nq; have cY := refMay_any (some ⟨V1.heap.size, 0, none⟩) 2 2 [(m : Int), (n : Int)] _ fC.rd; rw [HE.out] at cY; have kC := kS.trans (kq.mono kS.size); have rC := (kC.block w.heap.size (Array.getElem?_eq_some_iff.1 m1).1).trans m1; obtain ⟨x0, x1, xf, xg⟩ := box2 rC; have bC := b1.trans (kC.mono b1.size))
      | (go_at_call 53; (with_reducible refine cY.mono ?_); rintro e V2 ⟨rfl, hV⟩; rw [hV]; clear hV))
    (try simp only [Exit.inBlock, Exit.then])
    refine bodyPost_ret (v := .tuple #[.agg #[.slice none 0 0, .slice none 0 0], .int .i64 17]) (by rw [results_cell_tmp rfl]; go_simp) rfl ?_
    exact ⟨none, 0, 0, none, 0, 0, rfl, Ft.nil _ _ _, Ft.nil _ _ _, below_set2 _ _ _ _ bC (Nat.le_refl _) (Nat.le_refl _)⟩
end Go.Proofs.YtmepcenbaohcoaaGreat
