
/- Contract: arrays joined under a frame. -/

import Derived.Test.YtjpdjnkmipfmbaaGreatE1
import Derived.Test.YtjpdjnkmipfmbaaGreatC12


namespace Go.Proofs.YtjpdjnkmipfmbaaGreat

open Go.RowKit

set_option linter.unusedVariables false

/-- A joiner that was begun and given k arrays. -/
structure Ji (W0 V : World) (jb : Nat) (o : Option Addr) (fn c : Nat) (fs : List Int) (xs : Nat → List Int × List Int) (k : Nat) : Prop where
  bel : Below W0.heap.size W0 V
  jn : ∃ co cn cc go gc, Jn V W0.heap.size jb o fn c co cn cc go gc fs xs k

set_option maxHeartbeats 2000000 in
set_option maxRecDepth 20000 in
theorem join_bad (fo : Option Addr) (fn fc : Nat) (fs : List Int) (ao : Option Addr) (m ac : Nat) (xs : Nat → List Int × List Int) (w : World) (hf : Rd w fo fn fs) (sf : Sl fo fn fc) (ha : As w ao m xs) (h : begE fs ≠ 0) :
    Calls Tryz.prog 62 #[.slice fo fn fc, .slice ao m ac] w fun e w' => e = .returned (.tuple #[.agg #[.slice none 0 0, .slice none 0 0], .int .i64 (begE fs)]) ∧ Below w.heap.size w w' := by
  have k0 := box_below w (.cells #[.slice none 0 0, .slice none 0 0] 25)
  have hbg := begin_bad fo fn fc fs _ (hf.below k0 (Nat.le_refl _)) h
  have h' : (begE fs != 0) = true := by simpa using h
  clear h
  generalize begE fs = E at *
  go_enter Tryz.func62, Tryz.ntmps62
  go_wp2_with (go_at_call 59; refine hbg.mono ?_; rintro e W1 ⟨rfl, hW1⟩; rw [hW1]; clear hW1 W1)
  go_returns
  exact ⟨rfl, k0⟩

set_option maxHeartbeats 8000000 in
set_option maxRecDepth 20000 in
theorem join_err (fo : Option Addr) (fn fc : Nat) (fs : List Int) (ao : Option Addr) (m ac : Nat) (xs : Nat → List Int × List Int) (w : World) (hf : Rd w fo fn fs) (sf : Sl fo fn fc) (ha : As w ao m xs) (h : begE fs = 0) (hj : jF fs xs m ≠ 0) :
    Calls Tryz.prog 62 #[.slice fo fn fc, .slice ao m ac] w fun e w' => e = .returned (.tuple #[.agg #[.slice none 0 0, .slice none 0 0], .int .i64 (jF fs xs m)]) ∧ Below w.heap.size w w' := by
  have k0 := box_below w (.cells #[.slice none 0 0, .slice none 0 0] 25)
  have r0 := allocNew w (.cells #[.slice none 0 0, .slice none 0 0] 25)
  have hbg := begin_ok fo fn fc fs xs _ (hf.below k0 (Nat.le_refl _)) sf h
  have m0 : mayF fs = 0 := by
    unfold begE at h
    by_cases c : mayF fs = 0
    · exact c
    · rw [if_pos c] at h; exact absurd h c
  have p0 : pr fs ≠ 0 := by
    intro c
    unfold begE at h
    rw [if_neg (by omega), if_pos c] at h
    omega
  have pf := prF_bd m0
  have HM : Hid (mayF fs = 0) := m0
  have HJ : Hid (jF fs xs m ≠ 0) := hj
  have HA : Hid (∀ k, jF fs xs k = 0 → (k : Int) ≤ pr fs) := fun k hk => join_le pf.1 (jF_all hk)
  have HC : Hid (∀ k, jF fs xs k = 0 → k ≠ 0 → mayF (cmn xs k) = 0) := fun k hk h0 => by
    have := (jA_parts (jF_all hk (k - 1) (by omega))).2.2.1
    rwa [show k - 1 + 1 = k by omega] at this
  have rm := ha.room
  clear h m0 hj p0
  go_enter Tryz.func62, Tryz.ntmps62
  go_wp2_with (go_at_call 59; refine hbg.mono ?_; rintro e W1 ⟨jb, o, c, rfl, J0, b1⟩)
  obtain ⟨W0, hW0⟩ : ∃ W0, w.alloc (.cells #[.slice none 0 0, .slice none 0 0] 25) = W0 := ⟨_, rfl⟩
  rw [hW0] at J0 b1 k0 r0
  have lw : w.heap.size < W0.heap.size := (Array.getElem?_eq_some_iff.1 r0).1
  have hA0 := ha.below k0 (Nat.le_refl _)
  clear hbg hW0 ha hf
  go_loopw [22] (fun i V => ∃ k : Nat, k ≤ m ∧ i = .int .i64 (k : Nat) ∧ jF fs xs k = 0 ∧ Ji W0 V jb o fn c fs xs k) (fun i _ => m - (intOf i).toNat)
  case atStart => exact ⟨0, Nat.zero_le _, rfl, rfl, b1, _, _, _, _, _, J0⟩
  case round =>
    obtain ⟨k, hk, rfl, hjk, JI⟩ := hrel
    have HK : Hid (jF fs xs k = 0) := hjk
    have kle : (k : Int) ≤ pr fs := HA.out k hjk
    clear hjk J0 b1
    obtain ⟨bel, co, cn, cc, go, gc, J⟩ := JI
    by_cases hlt : k < m
    · obtain ⟨b, off, rfl, hb, hc⟩ := (hA0.below bel (Nat.le_refl _)).cells (by omega)
      obtain ⟨so, sn, sc, ro, rn, rc, a1, a2, a3, a4, a5, a6⟩ := hc k hlt
      clear hc
      have t1 : decide ((k : Int) < (m : Int)) = true := by simp; omega
      have b3 : (k : Int) < (m : Int) := by omega
      have wk : IntKind.i64.wrap ((k : Int) + 1) = (k : Int) + 1 := wrapIn _ (by omega)
      have kb := box_below wr (.cells #[.slice so sn sc, .slice ro rn rc] 25)
      have J1 := J.below kb (Nat.le_refl _)
      have a3' := a3.below kb (Nat.le_refl _)
      have a5' := a5.below kb (Nat.le_refl _)
      by_cases he : jA fs xs k = 0
      · have HE : Hid (jA fs xs k = 0) := he
        clear he
        have had := add_ok J1 so ro sn sc rn rc (xs k).1 (xs k).2 a3' a4 a5' a6 HM.out (HC.out k HK.out) (by omega) HE.out rfl (by have := bel.size; have := kb.size; omega)
        go_wp2_with (go_at_call 88; refine had.mono ?_; rintro e V2 ⟨co', cn', cc', go', gc', rfl, J2, b2⟩)
        go_roundw
        case rel => exact ⟨k + 1, by omega, by go_num, by show (if jF fs xs k = 0 then jA fs xs k else jF fs xs k) = 0; rw [if_pos HK.out]; exact HE.out, (btw bel kb bel.size).trans b2, _, _, _, _, _, J2⟩
        case measure => simp [intOf]; omega
      · have HE : Hid (jA fs xs k ≠ 0) := he
        have he' : (addE fs xs k (xs k).1 (xs k).2 != 0) = true := by simpa [jA] using he
        clear he
        have had := add_bad J1 so ro sn sc rn rc (xs k).1 (xs k).2 a3' a4 a5' HM.out (HC.out k HK.out) (by omega) HE.out
        have HQ : Hid (jF fs xs m = addE fs xs k (xs k).1 (xs k).2) := by
          show _ = _
          have e1 : jF fs xs (k + 1) = jA fs xs k := by show (if jF fs xs k = 0 then jA fs xs k else jF fs xs k) = _; rw [if_pos HK.out]
          rw [jF_stays (n := k + 1) (m := m) (by omega) (by rw [e1]; exact HE.out), e1]
          rfl
        generalize addE fs xs k (xs k).1 (xs k).2 = EE at *
        go_wp2_with (go_at_call 88; refine had.mono ?_; rintro e V2 ⟨rfl, b2⟩; have bb := btw (btw bel kb bel.size) b2 (btw bel kb bel.size).size; obtain ⟨y0, y1, y2, y3⟩ := box2 ((bb.block w.heap.size lw).trans r0))
        (try simp only [Exit.inBlock, Exit.then])
        refine bodyPost_ret (v := .tuple #[.agg #[.slice none 0 0, .slice none 0 0], .int .i64 EE]) (by rw [results_cell_tmp rfl]; go_simp) rfl ?_
        rw [HQ.out]
        exact ⟨rfl, below_set2 _ _ _ _ (btw k0 bb k0.size) (Nat.le_refl _) (Nat.le_refl _)⟩
    · obtain rfl : m = k := by omega
      exact absurd HK.out HJ.out

set_option maxHeartbeats 8000000 in
set_option maxRecDepth 20000 in
theorem join_few (fo : Option Addr) (fn fc : Nat) (fs : List Int) (ao : Option Addr) (m ac : Nat) (xs : Nat → List Int × List Int) (w : World) (hf : Rd w fo fn fs) (sf : Sl fo fn fc) (ha : As w ao m xs) (h : begE fs = 0) (hj : jF fs xs m = 0) (hm : (m : Int) < pr fs) :
    Calls Tryz.prog 62 #[.slice fo fn fc, .slice ao m ac] w fun e w' => e = .returned (.tuple #[.agg #[.slice none 0 0, .slice none 0 0], .int .i64 11]) ∧ Below w.heap.size w w' := by
  have k0 := box_below w (.cells #[.slice none 0 0, .slice none 0 0] 25)
  have r0 := allocNew w (.cells #[.slice none 0 0, .slice none 0 0] 25)
  have hbg := begin_ok fo fn fc fs xs _ (hf.below k0 (Nat.le_refl _)) sf h
  have m0 : mayF fs = 0 := by
    unfold begE at h
    by_cases c : mayF fs = 0
    · exact c
    · rw [if_pos c] at h; exact absurd h c
  have p0 : pr fs ≠ 0 := by
    intro c
    unfold begE at h
    rw [if_neg (by omega), if_pos c] at h
    omega
  have pf := prF_bd m0
  have HM : Hid (mayF fs = 0) := m0
  have HJ : Hid (jF fs xs m = 0) := hj
  have HA : Hid (∀ k, jF fs xs k = 0 → (k : Int) ≤ pr fs) := fun k hk => join_le pf.1 (jF_all hk)
  have HC : Hid (∀ k, jF fs xs k = 0 → k ≠ 0 → mayF (cmn xs k) = 0) := fun k hk h0 => by
    have := (jA_parts (jF_all hk (k - 1) (by omega))).2.2.1
    rwa [show k - 1 + 1 = k by omega] at this
  have HX : Hid (∀ k, k < m → jA fs xs k = 0) := jF_all hj
  have HN : Hid ((m : Int) < pr fs) := hm
  clear hm
  have rm := ha.room
  clear h m0 hj p0
  go_enter Tryz.func62, Tryz.ntmps62
  go_wp2_with (go_at_call 59; refine hbg.mono ?_; rintro e W1 ⟨jb, o, c, rfl, J0, b1⟩)
  obtain ⟨W0, hW0⟩ : ∃ W0, w.alloc (.cells #[.slice none 0 0, .slice none 0 0] 25) = W0 := ⟨_, rfl⟩
  rw [hW0] at J0 b1 k0 r0
  have lw : w.heap.size < W0.heap.size := (Array.getElem?_eq_some_iff.1 r0).1
  have hA0 := ha.below k0 (Nat.le_refl _)
  clear hbg hW0 ha hf
  go_loopw [22] (fun i V => ∃ k : Nat, k ≤ m ∧ i = .int .i64 (k : Nat) ∧ jF fs xs k = 0 ∧ Ji W0 V jb o fn c fs xs k) (fun i _ => m - (intOf i).toNat)
  case atStart => exact ⟨0, Nat.zero_le _, rfl, rfl, b1, _, _, _, _, _, J0⟩
  case round =>
    obtain ⟨k, hk, rfl, hjk, JI⟩ := hrel
    have HK : Hid (jF fs xs k = 0) := hjk
    have kle : (k : Int) ≤ pr fs := HA.out k hjk
    clear hjk J0 b1
    obtain ⟨bel, co, cn, cc, go, gc, J⟩ := JI
    by_cases hlt : k < m
    · obtain ⟨b, off, rfl, hb, hc⟩ := (hA0.below bel (Nat.le_refl _)).cells (by omega)
      obtain ⟨so, sn, sc, ro, rn, rc, a1, a2, a3, a4, a5, a6⟩ := hc k hlt
      clear hc
      have t1 : decide ((k : Int) < (m : Int)) = true := by simp; omega
      have b3 : (k : Int) < (m : Int) := by omega
      have wk : IntKind.i64.wrap ((k : Int) + 1) = (k : Int) + 1 := wrapIn _ (by omega)
      have kb := box_below wr (.cells #[.slice so sn sc, .slice ro rn rc] 25)
      have J1 := J.below kb (Nat.le_refl _)
      have a3' := a3.below kb (Nat.le_refl _)
      have a5' := a5.below kb (Nat.le_refl _)
      have he := HX.out k hlt
      have HE : Hid (jA fs xs k = 0) := he
      clear he
      have had := add_ok J1 so ro sn sc rn rc (xs k).1 (xs k).2 a3' a4 a5' a6 HM.out (HC.out k HK.out) (by omega) HE.out rfl (by have := bel.size; have := kb.size; omega)
      go_wp2_with (go_at_call 88; refine had.mono ?_; rintro e V2 ⟨co', cn', cc', go', gc', rfl, J2, b2⟩)
      go_roundw
      case rel => exact ⟨k + 1, by omega, by go_num, by show (if jF fs xs k = 0 then jA fs xs k else jF fs xs k) = 0; rw [if_pos HK.out]; exact HE.out, (btw bel kb bel.size).trans b2, _, _, _, _, _, J2⟩
      case measure => simp [intOf]; omega
    · obtain rfl : m = k := by omega
      have t1 : decide ((m : Int) < (m : Int)) = false := by simp
      have hdn := done_few J HM.out HN.out
      go_wp2_with (go_at_call 61; refine hdn.mono ?_; rintro e V2 ⟨rfl, b2⟩; have bb := btw bel b2 bel.size; obtain ⟨y0, y1, y2, y3⟩ := box2 ((bb.block w.heap.size lw).trans r0))
      (try simp only [Exit.inBlock, Exit.then])
      refine bodyPost_ret (v := .tuple #[.agg #[.slice none 0 0, .slice none 0 0], .int .i64 11]) (by rw [results_cell_tmp rfl]; go_simp) rfl ?_
      exact ⟨rfl, below_set2 _ _ _ _ (btw k0 bb k0.size) (Nat.le_refl _) (Nat.le_refl _)⟩

set_option maxHeartbeats 8000000 in
set_option maxRecDepth 20000 in
theorem join_ok (fo : Option Addr) (fn fc : Nat) (fs : List Int) (ao : Option Addr) (m ac : Nat) (xs : Nat → List Int × List Int) (w : World) (hf : Rd w fo fn fs) (sf : Sl fo fn fc) (ha : As w ao m xs) (h : begE fs = 0) (hj : jF fs xs m = 0) (hm : (m : Int) = pr fs) :
    Calls Tryz.prog 62 #[.slice fo fn fc, .slice ao m ac] w fun e w' => ∃ o1 n1 c1 o2 n2 c2, e = .returned (.tuple #[.agg #[.slice o1 n1 c1, .slice o2 n2 c2], .int .i64 0]) ∧ Ft 3 w' w.heap.size o1 n1 c1 (fs ++ cmn xs m) ∧ Ft 2 w' w.heap.size o2 n2 c2 (jnZ (cmn xs m) (pr (cmn xs m)).toNat xs (List.replicate (pr (fs ++ cmn xs m)).toNat 0) m) ∧ Below w.heap.size w w' := by
  have k0 := box_below w (.cells #[.slice none 0 0, .slice none 0 0] 25)
  have r0 := allocNew w (.cells #[.slice none 0 0, .slice none 0 0] 25)
  have hbg := begin_ok fo fn fc fs xs _ (hf.below k0 (Nat.le_refl _)) sf h
  have m0 : mayF fs = 0 := by
    unfold begE at h
    by_cases c : mayF fs = 0
    · exact c
    · rw [if_pos c] at h; exact absurd h c
  have p0 : pr fs ≠ 0 := by
    intro c
    unfold begE at h
    rw [if_neg (by omega), if_pos c] at h
    omega
  have pf := prF_bd m0
  have HM : Hid (mayF fs = 0) := m0
  have HJ : Hid (jF fs xs m = 0) := hj
  have HA : Hid (∀ k, jF fs xs k = 0 → (k : Int) ≤ pr fs) := fun k hk => join_le pf.1 (jF_all hk)
  have HC : Hid (∀ k, jF fs xs k = 0 → k ≠ 0 → mayF (cmn xs k) = 0) := fun k hk h0 => by
    have := (jA_parts (jF_all hk (k - 1) (by omega))).2.2.1
    rwa [show k - 1 + 1 = k by omega] at this
  have HX : Hid (∀ k, k < m → jA fs xs k = 0) := jF_all hj
  have hm0 : 0 < m := by omega
  obtain ⟨z1, z2, z3, z4⟩ := jA_parts (jF_all hj (m - 1) (by omega))
  rw [show m - 1 + 1 = m by omega] at z3 z4
  have HD : Hid (mayF (fs ++ cmn xs m) = 0 ∧ mayF (cmn xs m) = 0 ∧ (∀ j, j < m → mayA (xs j).1 (xs j).2 = 0) ∧ ∀ j, j < m → Wn (cmn xs m) (xs j).1) := ⟨z4, z3, fun j hj' => (jA_parts (jF_all hj j hj')).2.1, join_wn (jF_all hj)⟩
  have HN : Hid ((m : Int) = pr fs) := hm
  clear z1 z2 z3 z4 hm
  have rm := ha.room
  clear h m0 hj p0
  go_enter Tryz.func62, Tryz.ntmps62
  go_wp2_with (go_at_call 59; refine hbg.mono ?_; rintro e W1 ⟨jb, o, c, rfl, J0, b1⟩)
  obtain ⟨W0, hW0⟩ : ∃ W0, w.alloc (.cells #[.slice none 0 0, .slice none 0 0] 25) = W0 := ⟨_, rfl⟩
  rw [hW0] at J0 b1 k0 r0
  have lw : w.heap.size < W0.heap.size := (Array.getElem?_eq_some_iff.1 r0).1
  have hA0 := ha.below k0 (Nat.le_refl _)
  clear hbg hW0 ha hf
  go_loopw [22] (fun i V => ∃ k : Nat, k ≤ m ∧ i = .int .i64 (k : Nat) ∧ jF fs xs k = 0 ∧ Ji W0 V jb o fn c fs xs k) (fun i _ => m - (intOf i).toNat)
  case atStart => exact ⟨0, Nat.zero_le _, rfl, rfl, b1, _, _, _, _, _, J0⟩
  case round =>
    obtain ⟨k, hk, rfl, hjk, JI⟩ := hrel
    have HK : Hid (jF fs xs k = 0) := hjk
    have kle : (k : Int) ≤ pr fs := HA.out k hjk
    clear hjk J0 b1
    obtain ⟨bel, co, cn, cc, go, gc, J⟩ := JI
    by_cases hlt : k < m
    · obtain ⟨b, off, rfl, hb, hc⟩ := (hA0.below bel (Nat.le_refl _)).cells (by omega)
      obtain ⟨so, sn, sc, ro, rn, rc, a1, a2, a3, a4, a5, a6⟩ := hc k hlt
      clear hc
      have t1 : decide ((k : Int) < (m : Int)) = true := by simp; omega
      have b3 : (k : Int) < (m : Int) := by omega
      have wk : IntKind.i64.wrap ((k : Int) + 1) = (k : Int) + 1 := wrapIn _ (by omega)
      have kb := box_below wr (.cells #[.slice so sn sc, .slice ro rn rc] 25)
      have J1 := J.below kb (Nat.le_refl _)
      have a3' := a3.below kb (Nat.le_refl _)
      have a5' := a5.below kb (Nat.le_refl _)
      have he := HX.out k hlt
      have HE : Hid (jA fs xs k = 0) := he
      clear he
      have had := add_ok J1 so ro sn sc rn rc (xs k).1 (xs k).2 a3' a4 a5' a6 HM.out (HC.out k HK.out) (by omega) HE.out rfl (by have := bel.size; have := kb.size; omega)
      go_wp2_with (go_at_call 88; refine had.mono ?_; rintro e V2 ⟨co', cn', cc', go', gc', rfl, J2, b2⟩)
      go_roundw
      case rel => exact ⟨k + 1, by omega, by go_num, by show (if jF fs xs k = 0 then jA fs xs k else jF fs xs k) = 0; rw [if_pos HK.out]; exact HE.out, (btw bel kb bel.size).trans b2, _, _, _, _, _, J2⟩
      case measure => simp [intOf]; omega
    · obtain rfl : m = k := by omega
      have t1 : decide ((m : Int) < (m : Int)) = false := by simp
      obtain ⟨z1, z2, z3, z4⟩ := HD.out
      have hdn := done_ok J HM.out HN.out hm0 z1 z2 z3 z4
      clear z1 z2 z3 z4
      go_wp2_with (go_at_call 61; refine hdn.mono ?_; rintro e V2 ⟨o1, n1, c1, o2, n2, c2, rfl, g1, g2, b2⟩; have bb := btw bel b2 bel.size; obtain ⟨y0, y1, y2, y3⟩ := box2 ((bb.block w.heap.size lw).trans r0))
      (try simp only [Exit.inBlock, Exit.then])
      refine bodyPost_ret (v := .tuple #[.agg #[.slice o1 n1 c1, .slice o2 n2 c2], .int .i64 0]) (by rw [results_cell_tmp rfl]; go_simp) rfl ?_
      have lz := bel.size
      exact ⟨_, _, _, _, _, _, rfl, (g1.keep1 (set2 _ _ _ _ _ _) (fun b off e => by have := (g1.at b off e).1; intro e'; simp only [Option.some.injEq] at e'; omega)).mono (by omega), (g2.keep1 (set2 _ _ _ _ _ _) (fun b off e => by have := (g2.at b off e).1; intro e'; simp only [Option.some.injEq] at e'; omega)).mono (by omega), below_set2 _ _ _ _ (btw k0 bb k0.size) (Nat.le_refl _) (Nat.le_refl _)⟩
end Go.Proofs.YtjpdjnkmipfmbaaGreat
