
/- Package prim: liftOne of a frame with places. -/

import Derived.Test.YtelcagfaflpolaaGreatE1
import Derived.Test.YtelcagfaflpolaaGreatC12
import Derived.Test.YtelcagfaflpolaaGreatPG
import Derived.Test.YtelcagfaflpolaaGreatT4
import Derived.Test.YtelcagfaflpolaaGreatD1
import Derived.Deep.RegionHeld3
import Derived.Deep.Cut
import Derived.Laws.EntriesVeiled
import Derived.Test.YtelcagfaflpolaaGreatG1


namespace Go.Proofs.YtelcagfaflpolaaGreat

open Go.RowKit

set_option linter.unusedVariables false

/-- A joiner that was begun and given k arrays. -/
structure Ji (W0 V : World) (jb : Nat) (o : Option Addr) (fn c : Nat) (fs : List Int) (xs : Nat → List Int × List Int) (k : Nat) : Prop where
  bel : Below W0.heap.size W0 V
  jn : ∃ co cn cc go gc, Jn V W0.heap.size jb o fn c co cn cc go gc fs xs k

set_option maxHeartbeats 8000000 in
set_option maxRecDepth 20000 in
theorem join_ok (fo : Option Addr) (fn fc : Nat) (fs : List Int) (ao : Option Addr) (m ac : Nat) (xs : Nat → List Int × List Int) (w : World) (hf : Rd w fo fn fs) (sf : Sl fo fn fc) (ha : As w ao m xs) (h : begE fs = 0) (hj : jF fs xs m = 0) (hm : (m : Int) = pr fs) :
    Calls Tryz.prog 205 #[.slice fo fn fc, .slice ao m ac] w fun e w' => ∃ o1 n1 c1 o2 n2 c2, e = .returned (.tuple #[.agg #[.slice o1 n1 c1, .slice o2 n2 c2], .int .i64 0]) ∧ Ft 3 w' w.heap.size o1 n1 c1 (fs ++ cmn xs m) ∧ Ft 2 w' w.heap.size o2 n2 c2 (jnZ (cmn xs m) (pr (cmn xs m)).toNat xs (List.replicate (pr (fs ++ cmn xs m)).toNat 0) m) ∧ Below w.heap.size w w' := by
  have k0 := box_below w (.cells #[.slice none 0 0, .slice none 0 0] 36)
  have r0 := allocNew w (.cells #[.slice none 0 0, .slice none 0 0] 36)
  have hbg := begin_ok fo fn fc fs xs _ (hf.below k0 (Nat.le_refl _)) sf h
  have m0 : mayF fs = 0 := by
    unfold begE at h
    by_cases c : mayF fs = 0
    · exact c
    · rw [if_pos c] at h; exact absurd h c
  have p0 : pr fs ≠ 0 := by
    intro c
    unfold begE at h
    rw [if_neg (by omega), if_pos c] at h
    omega
  have pf := prF_bd m0
  have HM : Hid (mayF fs = 0) := m0
  have HJ : Hid (jF fs xs m = 0) := hj
  have HA : Hid (∀ k, jF fs xs k = 0 → (k : Int) ≤ pr fs) := fun k hk => join_le pf.1 (jF_all hk)
  have HC : Hid (∀ k, jF fs xs k = 0 → k ≠ 0 → mayF (cmn xs k) = 0) := fun k hk h0 => by
    have := (jA_parts (jF_all hk (k - 1) (by omega))).2.2.1
    rwa [show k - 1 + 1 = k by omega] at this
  have HX : Hid (∀ k, k < m → jA fs xs k = 0) := jF_all hj
  have hm0 : 0 < m := by omega
  obtain ⟨z1, z2, z3, z4⟩ := jA_parts (jF_all hj (m - 1) (by omega))
  rw [show m - 1 + 1 = m by omega] at z3 z4
  have HD : Hid (mayF (fs ++ cmn xs m) = 0 ∧ mayF (cmn xs m) = 0 ∧ (∀ j, j < m → mayA (xs j).1 (xs j).2 = 0) ∧ ∀ j, j < m → Wn (cmn xs m) (xs j).1) := ⟨z4, z3, fun j hj' => (jA_parts (jF_all hj j hj')).2.1, join_wn (jF_all hj)⟩
  have HN : Hid ((m : Int) = pr fs) := hm
  clear z1 z2 z3 z4 hm
  have rm := ha.room
  clear h m0 hj p0
  go_enter Tryz.func205, Tryz.ntmps205
  go_wp2_with (go_at_call 15; refine hbg.mono ?_; rintro e W1 ⟨jb, o, c, rfl, J0, b1⟩)
  obtain ⟨W0, hW0⟩ : ∃ W0, w.alloc (.cells #[.slice none 0 0, .slice none 0 0] 36) = W0 := ⟨_, rfl⟩
  rw [hW0] at J0 b1 k0 r0
  have lw : w.heap.size < W0.heap.size := (Array.getElem?_eq_some_iff.1 r0).1
  have hA0 := ha.below k0 (Nat.le_refl _)
  clear hbg hW0 ha hf
  go_loopw [22] (fun i V => ∃ k : Nat, k ≤ m ∧ i = .int .i64 (k : Nat) ∧ jF fs xs k = 0 ∧ Ji W0 V jb o fn c fs xs k) (fun i _ => m - (intOf i).toNat)
  case atStart => exact ⟨0, Nat.zero_le _, rfl, rfl, b1, _, _, _, _, _, J0⟩
  case round =>
    obtain ⟨k, hk, rfl, hjk, JI⟩ := hrel
    have HK : Hid (jF fs xs k = 0) := hjk
    have kle : (k : Int) ≤ pr fs := HA.out k hjk
    clear hjk J0 b1
    obtain ⟨bel, co, cn, cc, go, gc, J⟩ := JI
    by_cases hlt : k < m
    · obtain ⟨b, off, rfl, hb, hc⟩ := (hA0.below bel (Nat.le_refl _)).cells (by omega)
      obtain ⟨so, sn, sc, ro, rn, rc, a1, a2, a3, a4, a5, a6⟩ := hc k hlt
      clear hc
      have t1 : decide ((k : Int) < (m : Int)) = true := by simp; omega
      have b3 : (k : Int) < (m : Int) := by omega
      have wk : IntKind.i64.wrap ((k : Int) + 1) = (k : Int) + 1 := wrapIn _ (by omega)
      have kb := box_below wr (.cells #[.slice so sn sc, .slice ro rn rc] 36)
      have J1 := J.below kb (Nat.le_refl _)
      have a3' := a3.below kb (Nat.le_refl _)
      have a5' := a5.below kb (Nat.le_refl _)
      have he := HX.out k hlt
      have HE : Hid (jA fs xs k = 0) := he
      clear he
      have had := add_ok J1 so ro sn sc rn rc (xs k).1 (xs k).2 a3' a4 a5' a6 HM.out (HC.out k HK.out) (by omega) HE.out rfl (by have := bel.size; have := kb.size; omega)
      go_wp2_with (go_at_call 17; refine had.mono ?_; rintro e V2 ⟨co', cn', cc', go', gc', rfl, J2, b2⟩)
      go_roundw
      case rel => exact ⟨k + 1, by omega, by go_num, by show (if jF fs xs k = 0 then jA fs xs k else jF fs xs k) = 0; rw [if_pos HK.out]; exact HE.out, (btw bel kb bel.size).trans b2, _, _, _, _, _, J2⟩
      case measure => simp [intOf]; omega
    · obtain rfl : m = k := by omega
      have t1 : decide ((m : Int) < (m : Int)) = false := by simp
      obtain ⟨z1, z2, z3, z4⟩ := HD.out
      have hdn := done_ok J HM.out HN.out hm0 z1 z2 z3 z4
      clear z1 z2 z3 z4
      go_wp2_with (go_at_call 19; refine hdn.mono ?_; rintro e V2 ⟨o1, n1, c1, o2, n2, c2, rfl, g1, g2, b2⟩; have bb := btw bel b2 bel.size; obtain ⟨y0, y1, y2, y3⟩ := box2 ((bb.block w.heap.size lw).trans r0))
      (try simp only [Exit.inBlock, Exit.then])
      refine bodyPost_ret (v := .tuple #[.agg #[.slice o1 n1 c1, .slice o2 n2 c2], .int .i64 0]) (by rw [results_cell_tmp rfl]; go_simp) rfl ?_
      have lz := bel.size
      exact ⟨_, _, _, _, _, _, rfl, (g1.keep1 (set2 _ _ _ _ _ _) (fun b off e => by have := (g1.at b off e).1; intro e'; simp only [Option.some.injEq] at e'; omega)).mono (by omega), (g2.keep1 (set2 _ _ _ _ _ _) (fun b off e => by have := (g2.at b off e).1; intro e'; simp only [Option.some.injEq] at e'; omega)).mono (by omega), below_set2 _ _ _ _ (btw k0 bb k0.size) (Nat.le_refl _) (Nat.le_refl _)⟩
end Go.Proofs.YtelcagfaflpolaaGreat




namespace Go.Proofs.YtelcagfaflpolaaGreat

open Go.RowKit

set_option linter.unusedVariables false

/-- The refusal at place k: of what is done there, or of the joining. -/
def lE (gE : Nat → Int) (fs : List Int) (xs : Nat → List Int × List Int) (k : Nat) : Int := if gE k = 0 then jA fs xs k else gE k
/-- The first refusal among k places. -/
def lF (gE : Nat → Int) (fs : List Int) (xs : Nat → List Int × List Int) : Nat → Int
  | 0 => 0
  | k + 1 => if lF gE fs xs k = 0 then lE gE fs xs k else lF gE fs xs k
theorem lF_stays {gE : Nat → Int} {fs : List Int} {xs : Nat → List Int × List Int} {n : Nat} : ∀ {m : Nat}, n ≤ m → lF gE fs xs n ≠ 0 → lF gE fs xs m = lF gE fs xs n
  | 0, h, _ => by rw [show n = 0 by omega]
  | m + 1, h, c => by
    by_cases e : n = m + 1
    · rw [e]
    · have := lF_stays (m := m) (by omega) c
      show (if lF gE fs xs m = 0 then lE gE fs xs m else lF gE fs xs m) = _
      rw [this, if_neg c]
theorem lF_all {gE : Nat → Int} {fs : List Int} {xs : Nat → List Int × List Int} : ∀ {n : Nat}, lF gE fs xs n = 0 → ∀ k, k < n → gE k = 0 ∧ jA fs xs k = 0
  | 0, _, k, hk => by omega
  | n + 1, h, k, hk => by
    unfold lF at h
    by_cases c : lF gE fs xs n = 0
    · rw [if_pos c] at h
      by_cases e : k = n
      · subst e
        unfold lE at h
        by_cases c2 : gE k = 0
        · rw [if_pos c2] at h; exact ⟨c2, h⟩
        · rw [if_neg c2] at h; exact absurd h c2
      · exact lF_all c k (by omega)
    · rw [if_neg c] at h; exact absurd h c
theorem lF_do {gE : Nat → Int} {fs : List Int} {xs : Nat → List Int × List Int} {k n : Nat} (h : lF gE fs xs k = 0) (hk : k < n) (he : gE k ≠ 0) : lF gE fs xs n = gE k := by
  have e1 : lF gE fs xs (k + 1) = gE k := by
    show (if lF gE fs xs k = 0 then lE gE fs xs k else lF gE fs xs k) = _
    rw [if_pos h]; unfold lE; rw [if_neg he]
  rw [lF_stays (n := k + 1) hk (by rw [e1]; exact he), e1]
theorem lF_add {gE : Nat → Int} {fs : List Int} {xs : Nat → List Int × List Int} {k n : Nat} (h : lF gE fs xs k = 0) (hk : k < n) (he : gE k = 0) (hj : jA fs xs k ≠ 0) : lF gE fs xs n = jA fs xs k := by
  have e1 : lF gE fs xs (k + 1) = jA fs xs k := by
    show (if lF gE fs xs k = 0 then lE gE fs xs k else lF gE fs xs k) = _
    rw [if_pos h]; unfold lE; rw [if_pos he]
  rw [lF_stays (n := k + 1) hk (by rw [e1]; exact hj), e1]
theorem lF_on {gE : Nat → Int} {fs : List Int} {xs : Nat → List Int × List Int} {k : Nat} (h : lF gE fs xs k = 0) (he : gE k = 0) (hj : jA fs xs k = 0) : lF gE fs xs (k + 1) = 0 := by
  show (if lF gE fs xs k = 0 then lE gE fs xs k else lF gE fs xs k) = _
  rw [if_pos h]; unfold lE; rw [if_pos he]; exact hj
/-- What is joined. -/
def lS (gE : Nat → Int) (fs : List Int) (xs : Nat → List Int × List Int) (n : Nat) : List Int := onOk (lF gE fs xs n) (fs ++ cmn xs n)
def lA (gE : Nat → Int) (fs : List Int) (xs : Nat → List Int × List Int) (n : Nat) : List Int := onOk (lF gE fs xs n) (jnZ (cmn xs n) (pr (cmn xs n)).toNat xs (List.replicate (pr (fs ++ cmn xs n)).toNat 0) n)
theorem lS_no {gE : Nat → Int} {fs : List Int} {xs : Nat → List Int × List Int} {n : Nat} (h : lF gE fs xs n ≠ 0) : lS gE fs xs n = [] ∧ lA gE fs xs n = [] := ⟨onOk_no h _, onOk_no h _⟩
theorem lS_ok {gE : Nat → Int} {fs : List Int} {xs : Nat → List Int × List Int} {n : Nat} (h : lF gE fs xs n = 0) : lS gE fs xs n = fs ++ cmn xs n ∧ lA gE fs xs n = jnZ (cmn xs n) (pr (cmn xs n)).toNat xs (List.replicate (pr (fs ++ cmn xs n)).toNat 0) n := ⟨onOk_ok h _, onOk_ok h _⟩

set_option maxHeartbeats 4000000 in
theorem joined_1 (p1 p2 : Nat) (fo : Option Addr) (fn fc : Nat) (fs : List Int) (n : Nat) (gE : Nat → Int) (xs : Nat → List Int × List Int) (w : World) (hf : Rd w fo fn fs) (sf : Sl fo fn fc) (h : begE fs = 0) (hm : (n : Int) = pr fs)
    (HD : ∀ V k, Below w.heap.size w V → k < n → Calls Tryz.prog 58 #[.int .i64 (k : Nat), .pointer (some ⟨p1, 0, none⟩), .pointer (some ⟨p2, 0, none⟩)] V fun e w' => AnsP V (gE k) (xs k).1 (xs k).2 e w') :
    Calls Tryz.prog 57 #[.slice fo fn fc, .int .i64 (n : Nat), .func (.func 58) #[] #[.pointer (some ⟨p1, 0, none⟩), .pointer (some ⟨p2, 0, none⟩)]] w fun e w' => AnsP w (lF gE fs xs n) (lS gE fs xs n) (lA gE fs xs n) e w' := by
  have k0 := box_below w (.cells #[.slice none 0 0, .slice none 0 0] 36)
  have r0 := allocNew w (.cells #[.slice none 0 0, .slice none 0 0] 36)
  have hbg := begin_ok fo fn fc fs xs _ (hf.below k0 (Nat.le_refl _)) sf h
  have m0 : mayF fs = 0 := by
    unfold begE at h
    by_cases c : mayF fs = 0
    · exact c
    · rw [if_pos c] at h; exact absurd h c
  have p0 : pr fs ≠ 0 := by
    intro c
    unfold begE at h
    rw [if_neg (by omega), if_pos c] at h
    omega
  have pf := prF_bd m0
  have n5 : n ≤ 4096 := by omega
  have HM : Hid (mayF fs = 0) := m0
  have HC : Hid (∀ k, lF gE fs xs k = 0 → k ≠ 0 → mayF (cmn xs k) = 0) := fun k hk h0 => by
    have := (jA_parts (lF_all hk (k - 1) (by omega)).2).2.2.1
    rwa [show k - 1 + 1 = k by omega] at this
  have HN : Hid ((n : Int) = pr fs) := hm
  have hm0 : 0 < n := by omega
  have HQ : Hid (∀ V k, Below w.heap.size w V → k < n → Calls Tryz.prog 58 #[.int .i64 (k : Nat), .pointer (some ⟨p1, 0, none⟩), .pointer (some ⟨p2, 0, none⟩)] V fun e w' => AnsP V (gE k) (xs k).1 (xs k).2 e w') := HD
  clear h m0 p0 hm HD
  go_enter Tryz.func57, Tryz.ntmps57
  go_wp2_with (go_at_call 15; refine hbg.mono ?_; rintro e W1 ⟨jb, o, c, rfl, J0, b1⟩)
  obtain ⟨W0, hW0⟩ : ∃ W0, w.alloc (.cells #[.slice none 0 0, .slice none 0 0] 36) = W0 := ⟨_, rfl⟩
  rw [hW0] at J0 b1 k0 r0
  have lw : w.heap.size < W0.heap.size := (Array.getElem?_eq_some_iff.1 r0).1
  clear hbg hW0 hf
  go_loopw [24] (fun i V => ∃ k : Nat, k ≤ n ∧ i = .int .i64 (k : Nat) ∧ lF gE fs xs k = 0 ∧ Ji W0 V jb o fn c fs xs k) (fun i _ => n - (intOf i).toNat)
  case atStart => exact ⟨0, Nat.zero_le _, rfl, rfl, b1, _, _, _, _, _, J0⟩
  case round =>
    obtain ⟨k, hk, rfl, hjk, JI⟩ := hrel
    have HK : Hid (lF gE fs xs k = 0) := hjk
    clear hjk J0 b1
    obtain ⟨bel, co, cn, cc, go, gc, J⟩ := JI
    have bw := btw k0 bel k0.size
    by_cases hlt : k < n
    · have t1 : decide ((k : Int) < (n : Int)) = true := by simp; omega
      have wk : IntKind.i64.wrap ((k : Int) + 1) = (k : Int) + 1 := wrapIn _ (by omega)
      have hdo := HQ.out wr k bw hlt
      by_cases he : gE k = 0
      · rw [he] at hdo
        have HE : Hid (gE k = 0) := he
        clear he
        by_cases hj : jA fs xs k = 0
        · have HJ : Hid (jA fs xs k = 0) := hj
          clear hj
          go_wp2_with (first
            | (go_at_call 58; (with_reducible refine hdo.mono ?_); rintro e V1 ⟨o1, n1, c1, o2, n2, c2, rfl, f1, f2, d1⟩
               have kb := btw d1 (box_below V1 (.cells #[.slice o1 n1 c1, .slice o2 n2 c2] 36)) d1.size
               have kc := box_below V1 (.cells #[.slice o1 n1 c1, .slice o2 n2 c2] 36)
               have J1 := J.below kb (Nat.le_refl _)
               have had := add_ok J1 o1 o2 n1 c1 n2 c2 (xs k).1 (xs k).2 (f1.rd.below kc (Nat.le_refl _)) f1.sl (f2.rd.below kc (Nat.le_refl _)) f2.sl HM.out (HC.out k HK.out) (by omega) HJ.out rfl (by have := bel.size; have := kb.size; omega)
               clear hdo)
            | (go_at_call 17; (with_reducible refine had.mono ?_); rintro e V2 ⟨co', cn', cc', go', gc', rfl, J2, b2⟩))
          go_roundw
          case rel => exact ⟨k + 1, by omega, by go_num, lF_on HK.out HE.out HJ.out, (btw bel kb bel.size).trans b2, _, _, _, _, _, J2⟩
          case measure => simp [intOf]; omega
        · have tj : (addE fs xs k (xs k).1 (xs k).2 != 0) = true := by simpa [jA] using hj
          have HR : Hid (lF gE fs xs n = addE fs xs k (xs k).1 (xs k).2) := lF_add HK.out hlt HE.out hj
          have HJ : Hid (addE fs xs k (xs k).1 (xs k).2 ≠ 0) := hj
          clear hj
          go_wp2_with (first
            | (go_at_call 58; (with_reducible refine hdo.mono ?_); rintro e V1 ⟨o1, n1, c1, o2, n2, c2, rfl, f1, f2, d1⟩
               have kb := btw d1 (box_below V1 (.cells #[.slice o1 n1 c1, .slice o2 n2 c2] 36)) d1.size
               have kc := box_below V1 (.cells #[.slice o1 n1 c1, .slice o2 n2 c2] 36)
               have J1 := J.below kb (Nat.le_refl _)
               have had := add_bad J1 o1 o2 n1 c1 n2 c2 (xs k).1 (xs k).2 (f1.rd.below kc (Nat.le_refl _)) f1.sl (f2.rd.below kc (Nat.le_refl _)) HM.out (HC.out k HK.out) (by omega) HJ.out
               clear hdo)
            | (go_at_call 17; (with_reducible refine had.mono ?_); rintro e V2 ⟨rfl, b2⟩
               have bb := btw bel (btw kb b2 kb.size) bel.size
               obtain ⟨y0, y1, y2, y3⟩ := box2 ((bb.block w.heap.size lw).trans r0)))
          (try simp only [Exit.inBlock, Exit.then])
          refine bodyPost_ret (v := .tuple #[.agg #[.slice none 0 0, .slice none 0 0], .int .i64 (addE fs xs k (xs k).1 (xs k).2)]) (by rw [results_cell_tmp rfl]; go_simp) rfl ?_
          obtain ⟨u1, u2⟩ := lS_no (gE := gE) (fs := fs) (xs := xs) (n := n) (by rw [HR.out]; exact HJ.out)
          rw [u1, u2, HR.out]
          exact ansP_no w _ (below_set2 _ _ _ _ (btw k0 bb k0.size) (Nat.le_refl _) (Nat.le_refl _))
      · have te : (gE k != 0) = true := by simpa using he
        have HR : Hid (lF gE fs xs n = gE k) := lF_do HK.out hlt he
        have HE : Hid (gE k ≠ 0) := he
        clear he
        go_wp2_with (first
          | (go_at_call 58; (with_reducible refine hdo.mono ?_); rintro e V1 ⟨o1, n1, c1, o2, n2, c2, rfl, f1, f2, d1⟩
             have kb := btw d1 (box_below V1 (.cells #[.slice o1 n1 c1, .slice o2 n2 c2] 36)) d1.size
             have bb := btw bel kb bel.size
             obtain ⟨y0, y1, y2, y3⟩ := box2 ((bb.block w.heap.size lw).trans r0)
             clear hdo))
        (try simp only [Exit.inBlock, Exit.then])
        refine bodyPost_ret (v := .tuple #[.agg #[.slice none 0 0, .slice none 0 0], .int .i64 (gE k)]) (by rw [results_cell_tmp rfl]; go_simp) rfl ?_
        obtain ⟨u1, u2⟩ := lS_no (gE := gE) (fs := fs) (xs := xs) (n := n) (by rw [HR.out]; exact HE.out)
        rw [u1, u2, HR.out]
        exact ansP_no w _ (below_set2 _ _ _ _ (btw k0 bb k0.size) (Nat.le_refl _) (Nat.le_refl _))
    · obtain rfl : n = k := by omega
      have t1 : decide ((n : Int) < (n : Int)) = false := by simp
      have hall := lF_all HK.out
      obtain ⟨z1, z2, z3, z4⟩ := jA_parts (hall (n - 1) (by omega)).2
      rw [show n - 1 + 1 = n by omega] at z3 z4
      have hdn := done_ok J HM.out HN.out hm0 z4 z3 (fun j hj' => (jA_parts (hall j hj').2).2.1) (join_wn (fun j hj' => (hall j hj').2))
      clear z1 z2 z3 z4 hall
      go_wp2_with (go_at_call 19; refine hdn.mono ?_; rintro e V2 ⟨o1, n1, c1, o2, n2, c2, rfl, g1, g2, b2⟩; have bb := btw bel b2 bel.size; obtain ⟨y0, y1, y2, y3⟩ := box2 ((bb.block w.heap.size lw).trans r0))
      (try simp only [Exit.inBlock, Exit.then])
      refine bodyPost_ret (v := .tuple #[.agg #[.slice o1 n1 c1, .slice o2 n2 c2], .int .i64 0]) (by rw [results_cell_tmp rfl]; go_simp) rfl ?_
      have lz := bel.size
      obtain ⟨u1, u2⟩ := lS_ok HK.out
      rw [u1, u2, HK.out]
      exact ansP_box g1 g2 (Nat.le_refl _) (by omega) (btw k0 bb k0.size)

set_option maxHeartbeats 4000000 in
theorem joined_2 (p1 p2 p3 p4 : Nat) (fo : Option Addr) (fn fc : Nat) (fs : List Int) (n : Nat) (gE : Nat → Int) (xs : Nat → List Int × List Int) (w : World) (hf : Rd w fo fn fs) (sf : Sl fo fn fc) (h : begE fs = 0) (hm : (n : Int) = pr fs)
    (HD : ∀ V k, Below w.heap.size w V → k < n → Calls Tryz.prog 63 #[.int .i64 (k : Nat), .pointer (some ⟨p1, 0, none⟩), .pointer (some ⟨p2, 0, none⟩), .pointer (some ⟨p3, 0, none⟩), .pointer (some ⟨p4, 0, none⟩)] V fun e w' => AnsP V (gE k) (xs k).1 (xs k).2 e w') :
    Calls Tryz.prog 57 #[.slice fo fn fc, .int .i64 (n : Nat), .func (.func 63) #[] #[.pointer (some ⟨p1, 0, none⟩), .pointer (some ⟨p2, 0, none⟩), .pointer (some ⟨p3, 0, none⟩), .pointer (some ⟨p4, 0, none⟩)]] w fun e w' => AnsP w (lF gE fs xs n) (lS gE fs xs n) (lA gE fs xs n) e w' := by
  have k0 := box_below w (.cells #[.slice none 0 0, .slice none 0 0] 36)
  have r0 := allocNew w (.cells #[.slice none 0 0, .slice none 0 0] 36)
  have hbg := begin_ok fo fn fc fs xs _ (hf.below k0 (Nat.le_refl _)) sf h
  have m0 : mayF fs = 0 := by
    unfold begE at h
    by_cases c : mayF fs = 0
    · exact c
    · rw [if_pos c] at h; exact absurd h c
  have p0 : pr fs ≠ 0 := by
    intro c
    unfold begE at h
    rw [if_neg (by omega), if_pos c] at h
    omega
  have pf := prF_bd m0
  have n5 : n ≤ 4096 := by omega
  have HM : Hid (mayF fs = 0) := m0
  have HC : Hid (∀ k, lF gE fs xs k = 0 → k ≠ 0 → mayF (cmn xs k) = 0) := fun k hk h0 => by
    have := (jA_parts (lF_all hk (k - 1) (by omega)).2).2.2.1
    rwa [show k - 1 + 1 = k by omega] at this
  have HN : Hid ((n : Int) = pr fs) := hm
  have hm0 : 0 < n := by omega
  have HQ : Hid (∀ V k, Below w.heap.size w V → k < n → Calls Tryz.prog 63 #[.int .i64 (k : Nat), .pointer (some ⟨p1, 0, none⟩), .pointer (some ⟨p2, 0, none⟩), .pointer (some ⟨p3, 0, none⟩), .pointer (some ⟨p4, 0, none⟩)] V fun e w' => AnsP V (gE k) (xs k).1 (xs k).2 e w') := HD
  clear h m0 p0 hm HD
  go_enter Tryz.func57, Tryz.ntmps57
  go_wp2_with (go_at_call 15; refine hbg.mono ?_; rintro e W1 ⟨jb, o, c, rfl, J0, b1⟩)
  obtain ⟨W0, hW0⟩ : ∃ W0, w.alloc (.cells #[.slice none 0 0, .slice none 0 0] 36) = W0 := ⟨_, rfl⟩
  rw [hW0] at J0 b1 k0 r0
  have lw : w.heap.size < W0.heap.size := (Array.getElem?_eq_some_iff.1 r0).1
  clear hbg hW0 hf
  go_loopw [24] (fun i V => ∃ k : Nat, k ≤ n ∧ i = .int .i64 (k : Nat) ∧ lF gE fs xs k = 0 ∧ Ji W0 V jb o fn c fs xs k) (fun i _ => n - (intOf i).toNat)
  case atStart => exact ⟨0, Nat.zero_le _, rfl, rfl, b1, _, _, _, _, _, J0⟩
  case round =>
    obtain ⟨k, hk, rfl, hjk, JI⟩ := hrel
    have HK : Hid (lF gE fs xs k = 0) := hjk
    clear hjk J0 b1
    obtain ⟨bel, co, cn, cc, go, gc, J⟩ := JI
    have bw := btw k0 bel k0.size
    by_cases hlt : k < n
    · have t1 : decide ((k : Int) < (n : Int)) = true := by simp; omega
      have wk : IntKind.i64.wrap ((k : Int) + 1) = (k : Int) + 1 := wrapIn _ (by omega)
      have hdo := HQ.out wr k bw hlt
      by_cases he : gE k = 0
      · rw [he] at hdo
        have HE : Hid (gE k = 0) := he
        clear he
        by_cases hj : jA fs xs k = 0
        · have HJ : Hid (jA fs xs k = 0) := hj
          clear hj
          go_wp2_with (first
            | (go_at_call 63; (with_reducible refine hdo.mono ?_); rintro e V1 ⟨o1, n1, c1, o2, n2, c2, rfl, f1, f2, d1⟩
               have kb := btw d1 (box_below V1 (.cells #[.slice o1 n1 c1, .slice o2 n2 c2] 36)) d1.size
               have kc := box_below V1 (.cells #[.slice o1 n1 c1, .slice o2 n2 c2] 36)
               have J1 := J.below kb (Nat.le_refl _)
               have had := add_ok J1 o1 o2 n1 c1 n2 c2 (xs k).1 (xs k).2 (f1.rd.below kc (Nat.le_refl _)) f1.sl (f2.rd.below kc (Nat.le_refl _)) f2.sl HM.out (HC.out k HK.out) (by omega) HJ.out rfl (by have := bel.size; have := kb.size; omega)
               clear hdo)
            | (go_at_call 17; (with_reducible refine had.mono ?_); rintro e V2 ⟨co', cn', cc', go', gc', rfl, J2, b2⟩))
          go_roundw
          case rel => exact ⟨k + 1, by omega, by go_num, lF_on HK.out HE.out HJ.out, (btw bel kb bel.size).trans b2, _, _, _, _, _, J2⟩
          case measure => simp [intOf]; omega
        · have tj : (addE fs xs k (xs k).1 (xs k).2 != 0) = true := by simpa [jA] using hj
          have HR : Hid (lF gE fs xs n = addE fs xs k (xs k).1 (xs k).2) := lF_add HK.out hlt HE.out hj
          have HJ : Hid (addE fs xs k (xs k).1 (xs k).2 ≠ 0) := hj
          clear hj
          go_wp2_with (first
            | (go_at_call 63; (with_reducible refine hdo.mono ?_); rintro e V1 ⟨o1, n1, c1, o2, n2, c2, rfl, f1, f2, d1⟩
               have kb := btw d1 (box_below V1 (.cells #[.slice o1 n1 c1, .slice o2 n2 c2] 36)) d1.size
               have kc := box_below V1 (.cells #[.slice o1 n1 c1, .slice o2 n2 c2] 36)
               have J1 := J.below kb (Nat.le_refl _)
               have had := add_bad J1 o1 o2 n1 c1 n2 c2 (xs k).1 (xs k).2 (f1.rd.below kc (Nat.le_refl _)) f1.sl (f2.rd.below kc (Nat.le_refl _)) HM.out (HC.out k HK.out) (by omega) HJ.out
               clear hdo)
            | (go_at_call 17; (with_reducible refine had.mono ?_); rintro e V2 ⟨rfl, b2⟩
               have bb := btw bel (btw kb b2 kb.size) bel.size
               obtain ⟨y0, y1, y2, y3⟩ := box2 ((bb.block w.heap.size lw).trans r0)))
          (try simp only [Exit.inBlock, Exit.then])
          refine bodyPost_ret (v := .tuple #[.agg #[.slice none 0 0, .slice none 0 0], .int .i64 (addE fs xs k (xs k).1 (xs k).2)]) (by rw [results_cell_tmp rfl]; go_simp) rfl ?_
          obtain ⟨u1, u2⟩ := lS_no (gE := gE) (fs := fs) (xs := xs) (n := n) (by rw [HR.out]; exact HJ.out)
          rw [u1, u2, HR.out]
          exact ansP_no w _ (below_set2 _ _ _ _ (btw k0 bb k0.size) (Nat.le_refl _) (Nat.le_refl _))
      · have te : (gE k != 0) = true := by simpa using he
        have HR : Hid (lF gE fs xs n = gE k) := lF_do HK.out hlt he
        have HE : Hid (gE k ≠ 0) := he
        clear he
        go_wp2_with (first
          | (go_at_call 63; (with_reducible refine hdo.mono ?_); rintro e V1 ⟨o1, n1, c1, o2, n2, c2, rfl, f1, f2, d1⟩
             have kb := btw d1 (box_below V1 (.cells #[.slice o1 n1 c1, .slice o2 n2 c2] 36)) d1.size
             have bb := btw bel kb bel.size
             obtain ⟨y0, y1, y2, y3⟩ := box2 ((bb.block w.heap.size lw).trans r0)
             clear hdo))
        (try simp only [Exit.inBlock, Exit.then])
        refine bodyPost_ret (v := .tuple #[.agg #[.slice none 0 0, .slice none 0 0], .int .i64 (gE k)]) (by rw [results_cell_tmp rfl]; go_simp) rfl ?_
        obtain ⟨u1, u2⟩ := lS_no (gE := gE) (fs := fs) (xs := xs) (n := n) (by rw [HR.out]; exact HE.out)
        rw [u1, u2, HR.out]
        exact ansP_no w _ (below_set2 _ _ _ _ (btw k0 bb k0.size) (Nat.le_refl _) (Nat.le_refl _))
    · obtain rfl : n = k := by omega
      have t1 : decide ((n : Int) < (n : Int)) = false := by simp
      have hall := lF_all HK.out
      obtain ⟨z1, z2, z3, z4⟩ := jA_parts (hall (n - 1) (by omega)).2
      rw [show n - 1 + 1 = n by omega] at z3 z4
      have hdn := done_ok J HM.out HN.out hm0 z4 z3 (fun j hj' => (jA_parts (hall j hj').2).2.1) (join_wn (fun j hj' => (hall j hj').2))
      clear z1 z2 z3 z4 hall
      go_wp2_with (go_at_call 19; refine hdn.mono ?_; rintro e V2 ⟨o1, n1, c1, o2, n2, c2, rfl, g1, g2, b2⟩; have bb := btw bel b2 bel.size; obtain ⟨y0, y1, y2, y3⟩ := box2 ((bb.block w.heap.size lw).trans r0))
      (try simp only [Exit.inBlock, Exit.then])
      refine bodyPost_ret (v := .tuple #[.agg #[.slice o1 n1 c1, .slice o2 n2 c2], .int .i64 0]) (by rw [results_cell_tmp rfl]; go_simp) rfl ?_
      have lz := bel.size
      obtain ⟨u1, u2⟩ := lS_ok HK.out
      rw [u1, u2, HK.out]
      exact ansP_box g1 g2 (Nat.le_refl _) (by omega) (btw k0 bb k0.size)
end Go.Proofs.YtelcagfaflpolaaGreat






namespace Go.Proofs.YtelcagfaflpolaaGreat

open Go.RowKit

set_option linter.unusedVariables false

set_option maxHeartbeats 4000000 in
theorem lift1c_any (R : Array Value) (p1 p2 : Nat) (b off m mc k : Nat) (so ao : Option Addr) (sn sc an ac : Nat) (E : Int) (S A : List Int) (w : World) (hk : k < m)
    (h1 : w.cell? ⟨p1, 0, none⟩ = some (.func (.func 37) #[.agg R] #[])) (h2 : w.cell? ⟨p2, 1, none⟩ = some (.slice (some ⟨b, off, none⟩) m mc)) (h3 : w.cell? ⟨b, off + k * 2, none⟩ = some (.slice so sn sc)) (h4 : w.cell? ⟨b, off + k * 2 + 1, none⟩ = some (.slice ao an ac))
    (hq : ∀ V, Below w.heap.size w V → Calls Tryz.prog 37 #[.agg R, .agg #[.slice so sn sc, .slice ao an ac]] V fun e w' => AnsP V E S A e w') :
    Calls Tryz.prog 58 #[.int .i64 (k : Nat), .pointer (some ⟨p1, 0, none⟩), .pointer (some ⟨p2, 0, none⟩)] w fun e w' => AnsP w E S A e w' := by
  have l1 := World.block_lt_of_cell? w _ h1
  have l2 := World.block_lt_of_cell? w _ h2
  have l3 := World.block_lt_of_cell? w _ h3
  have l4 := World.block_lt_of_cell? w _ h4
  have k0 := box_below w (.cells #[.slice none 0 0, .slice none 0 0] 36)
  have k1 : Below w.heap.size w (w.alloc (.cells #[.slice none 0 0, .slice none 0 0] 36)).drew := k0.drew
  have r0 := allocNew w (.cells #[.slice none 0 0, .slice none 0 0] 36)
  have al : ∀ V, Below w.heap.size w V → V.cell? ⟨p1, 0, none⟩ = some (.func (.func 37) #[.agg R] #[]) ∧ V.cell? ⟨p2, 1, none⟩ = some (.slice (some ⟨b, off, none⟩) m mc) ∧ V.cell? ⟨b, off + k * 2, none⟩ = some (.slice so sn sc) ∧ V.cell? ⟨b, off + k * 2 + 1, none⟩ = some (.slice ao an ac) := fun V B => ⟨(B.cell (p := ⟨p1, 0, none⟩) l1).trans h1, (B.cell (p := ⟨p2, 1, none⟩) l2).trans h2, (B.cell (p := ⟨b, off + k * 2, none⟩) l3).trans h3, (B.cell (p := ⟨b, off + k * 2 + 1, none⟩) l4).trans h4⟩
  have hc := hq _ k1
  have bk : (k : Int) < (m : Int) := by omega
  clear hq h1 h2 h3 h4
  go_enter Tryz.func58, Tryz.ntmps58
  go_wp2
  go_region_held3 (fun V => V.cell? ⟨p1, 0, none⟩ = some (.func (.func 37) #[.agg R] #[]) ∧ V.cell? ⟨p2, 1, none⟩ = some (.slice (some ⟨b, off, none⟩) m mc) ∧ V.cell? ⟨b, off + k * 2, none⟩ = some (.slice so sn sc) ∧ V.cell? ⟨b, off + k * 2 + 1, none⟩ = some (.slice ao an ac)) (first | exact al _ k1 | exact al _ k5 | exact S6)
    (first
      | (go_at_call 37; (with_reducible refine hc.mono ?_); rintro e w5 ⟨o1, n1, c1, o2, n2, c2, rfl, f1, f2, d5⟩; have k5 := btw k1 d5 k1.size; have q5 := (d5.block w.heap.size (by simp [World.drew])).trans r0; obtain ⟨z0, z1, z2, z3⟩ := box2 q5; have S6 := al _ (below_set2 0 1 (.slice o1 n1 c1) (.slice o2 n2 c2) k5 (b := w.heap.size) (Nat.le_refl _) (Nat.le_refl _))))
  go_wp2
  (try simp only [Exit.inBlock, Exit.then])
  refine bodyPost_ret (v := .tuple #[.agg #[.slice o1 n1 c1, .slice o2 n2 c2], .int .i64 E]) (by rw [results_cell_tmp rfl]; go_simp) rfl ?_
  exact ansP_box f1 f2 (Nat.le_refl _) (by simp [World.drew]) k5

set_option maxHeartbeats 4000000 in
theorem lift2c_any (R : Array Value) (p1 p2 p3 p4 : Nat) (bx ofx m mc b off m2 mc2 k dx dy kx ky : Nat) (xso xo : Option Addr) (xsn xsc xn xc : Nat) (so ao : Option Addr) (sn sc an ac : Nat) (E : Int) (S A : List Int) (w : World) (hk : k ≤ 4096) (hdx : dx ≠ 0) (hdy : dy ≠ 0) (ekx : k / dx = kx) (eky : k / dy = ky) (hkx : kx < m) (hky : ky < m2)
    (hS : (fun V : World => V.cell? ⟨p1, 0, none⟩ = some (.func (.func 44) #[.agg R] #[]) ∧ V.cell? ⟨p2, 1, none⟩ = some (.slice (some ⟨bx, ofx, none⟩) m mc) ∧ V.cell? ⟨p2, 2, none⟩ = some (.slice (some ⟨b, off, none⟩) m2 mc2) ∧ V.cell? ⟨p3, 0, none⟩ = some (.int .i64 (dx : Nat)) ∧ V.cell? ⟨p4, 0, none⟩ = some (.int .i64 (dy : Nat)) ∧ V.cell? ⟨bx, ofx + kx * 2, none⟩ = some (.slice xso xsn xsc) ∧ V.cell? ⟨bx, ofx + kx * 2 + 1, none⟩ = some (.slice xo xn xc) ∧ V.cell? ⟨b, off + ky * 2, none⟩ = some (.slice so sn sc) ∧ V.cell? ⟨b, off + ky * 2 + 1, none⟩ = some (.slice ao an ac)) w)
    (hq : ∀ V, Below w.heap.size w V → Calls Tryz.prog 44 #[.agg R, .agg #[.slice xso xsn xsc, .slice xo xn xc], .agg #[.slice so sn sc, .slice ao an ac]] V fun e w' => AnsP V E S A e w') :
    Calls Tryz.prog 63 #[.int .i64 (k : Nat), .pointer (some ⟨p1, 0, none⟩), .pointer (some ⟨p2, 0, none⟩), .pointer (some ⟨p3, 0, none⟩), .pointer (some ⟨p4, 0, none⟩)] w fun e w' => AnsP w E S A e w' := by
  obtain ⟨h1, h2, h3, h4, h5, h6, h7, h8, h9⟩ := hS
  have l1 := World.block_lt_of_cell? w _ h1
  have l2 := World.block_lt_of_cell? w _ h2
  have l4 := World.block_lt_of_cell? w _ h4
  have l5 := World.block_lt_of_cell? w _ h5
  have l6 := World.block_lt_of_cell? w _ h6
  have l8 := World.block_lt_of_cell? w _ h8
  have k0 := box_below w (.cells #[.slice none 0 0, .slice none 0 0] 36)
  have k1 : Below w.heap.size w (w.alloc (.cells #[.slice none 0 0, .slice none 0 0] 36)).drew := k0.drew
  have r0 := allocNew w (.cells #[.slice none 0 0, .slice none 0 0] 36)
  have al : ∀ V, Below w.heap.size w V → V.cell? ⟨p1, 0, none⟩ = some (.func (.func 44) #[.agg R] #[]) ∧ V.cell? ⟨p2, 1, none⟩ = some (.slice (some ⟨bx, ofx, none⟩) m mc) ∧ V.cell? ⟨p2, 2, none⟩ = some (.slice (some ⟨b, off, none⟩) m2 mc2) ∧ V.cell? ⟨p3, 0, none⟩ = some (.int .i64 (dx : Nat)) ∧ V.cell? ⟨p4, 0, none⟩ = some (.int .i64 (dy : Nat)) ∧ V.cell? ⟨bx, ofx + kx * 2, none⟩ = some (.slice xso xsn xsc) ∧ V.cell? ⟨bx, ofx + kx * 2 + 1, none⟩ = some (.slice xo xn xc) ∧ V.cell? ⟨b, off + ky * 2, none⟩ = some (.slice so sn sc) ∧ V.cell? ⟨b, off + ky * 2 + 1, none⟩ = some (.slice ao an ac) := fun V B => ⟨(B.cell (p := ⟨p1, 0, none⟩) l1).trans h1, (B.cell (p := ⟨p2, 1, none⟩) l2).trans h2, (B.cell (p := ⟨p2, 2, none⟩) l2).trans h3, (B.cell (p := ⟨p3, 0, none⟩) l4).trans h4, (B.cell (p := ⟨p4, 0, none⟩) l5).trans h5, (B.cell (p := ⟨bx, ofx + kx * 2, none⟩) l6).trans h6, (B.cell (p := ⟨bx, ofx + kx * 2 + 1, none⟩) l6).trans h7, (B.cell (p := ⟨b, off + ky * 2, none⟩) l8).trans h8, (B.cell (p := ⟨b, off + ky * 2 + 1, none⟩) l8).trans h9⟩
  have hc := hq _ k1
  have bkx : (kx : Int) < (m : Int) := by omega
  have bky : (ky : Int) < (m2 : Int) := by omega
  have tx : ((dx : Int) == 0) = false := by simp; omega
  have ty : ((dy : Int) == 0) = false := by simp; omega
  have ux : ¬ (dx : Int) = 0 := by omega
  have uy : ¬ (dy : Int) = 0 := by omega
  have lx : kx ≤ k := by rw [← ekx]; exact Nat.div_le_self _ _
  have ly : ky ≤ k := by rw [← eky]; exact Nat.div_le_self _ _
  have wx : IntKind.i64.wrap ((k : Int) / (dx : Int)) = (kx : Int) := by rw [← Int.natCast_ediv, ekx]; exact wrapIn _ (by omega)
  have wy : IntKind.i64.wrap ((k : Int) / (dy : Int)) = (ky : Int) := by rw [← Int.natCast_ediv, eky]; exact wrapIn _ (by omega)
  clear hq h1 h2 h3 h4 h5 h6 h7 h8 h9 ekx eky
  go_enter Tryz.func63, Tryz.ntmps63
  go_wp2
  go_region_held3 (fun V => V.cell? ⟨p1, 0, none⟩ = some (.func (.func 44) #[.agg R] #[]) ∧ V.cell? ⟨p2, 1, none⟩ = some (.slice (some ⟨bx, ofx, none⟩) m mc) ∧ V.cell? ⟨p2, 2, none⟩ = some (.slice (some ⟨b, off, none⟩) m2 mc2) ∧ V.cell? ⟨p3, 0, none⟩ = some (.int .i64 (dx : Nat)) ∧ V.cell? ⟨p4, 0, none⟩ = some (.int .i64 (dy : Nat)) ∧ V.cell? ⟨bx, ofx + kx * 2, none⟩ = some (.slice xso xsn xsc) ∧ V.cell? ⟨bx, ofx + kx * 2 + 1, none⟩ = some (.slice xo xn xc) ∧ V.cell? ⟨b, off + ky * 2, none⟩ = some (.slice so sn sc) ∧ V.cell? ⟨b, off + ky * 2 + 1, none⟩ = some (.slice ao an ac)) (first | exact al _ k1 | exact al _ k5 | exact S6)
    (first
      | (go_at_call 44; (with_reducible refine hc.mono ?_); rintro e w5 ⟨o1, n1, c1, o2, n2, c2, rfl, f1, f2, d5⟩; have k5 := btw k1 d5 k1.size; have q5 := (d5.block w.heap.size (by simp [World.drew])).trans r0; obtain ⟨z0, z1, z2, z3⟩ := box2 q5; have S6 := al _ (below_set2 0 1 (.slice o1 n1 c1) (.slice o2 n2 c2) k5 (b := w.heap.size) (Nat.le_refl _) (Nat.le_refl _))))
  go_wp2
  (try simp only [Exit.inBlock, Exit.then])
  refine bodyPost_ret (v := .tuple #[.agg #[.slice o1 n1 c1, .slice o2 n2 c2], .int .i64 E]) (by rw [results_cell_tmp rfl]; go_simp) rfl ?_
  exact ansP_box f1 f2 (Nat.le_refl _) (by simp [World.drew]) k5
end Go.Proofs.YtelcagfaflpolaaGreat



namespace Go.Proofs.YtelcagfaflpolaaGreat

open Go.RowKit

set_option linter.unusedVariables false

/-- What a row's work does with each of the arrays xs. -/
def OneK (w : World) (R : Array Value) (n : Nat) (xs : Nat → List Int × List Int) (gE : Nat → Int) (ys : Nat → List Int × List Int) : Prop :=
  ∀ V k so ao sn sc an ac, Below w.heap.size w V → k < n → Rd V so sn (xs k).1 → Sl so sn sc → Rd V ao an (xs k).2 → Sl ao an ac → Calls Tryz.prog 37 #[.agg R, .agg #[.slice so sn sc, .slice ao an ac]] V fun e w' => AnsP V (gE k) (ys k).1 (ys k).2 e w'
theorem OneK.below {w V : World} {R : Array Value} {n : Nat} {xs : Nat → List Int × List Int} {gE : Nat → Int} {ys : Nat → List Int × List Int} (h : OneK w R n xs gE ys) (b : Below w.heap.size w V) : OneK V R n xs gE ys :=
  fun U k so ao sn sc an ac bU => h U k so ao sn sc an ac (btw b bU b.size)

theorem lift1_each {R : Array Value} {p1 p2 gg n mc : Nat} {xs ys : Nat → List Int × List Int} {gE : Nat → Int} {w : World} (h1 : w.cell? ⟨p1, 0, none⟩ = some (.func (.func 37) #[.agg R] #[])) (h2 : w.cell? ⟨p2, 1, none⟩ = some (.slice (some ⟨gg, 0, none⟩) n mc)) (ha : As w (some ⟨gg, 0, none⟩) n xs) (hq : OneK w R n xs gE ys) :
    ∀ V k, Below w.heap.size w V → k < n → Calls Tryz.prog 58 #[.int .i64 (k : Nat), .pointer (some ⟨p1, 0, none⟩), .pointer (some ⟨p2, 0, none⟩)] V fun e w' => AnsP V (gE k) (ys k).1 (ys k).2 e w' := by
  intro V k b hk
  obtain ⟨b', off, e, hl, hc⟩ := (ha.below b (Nat.le_refl _)).cells (by omega)
  cases e
  obtain ⟨so, sn, sc, ao, an, ac, a1, a2, a3, a4, a5, a6⟩ := hc k hk
  refine lift1c_any R p1 p2 gg 0 n mc k so ao sn sc an ac _ _ _ V hk ((b.cell (p := ⟨p1, 0, none⟩) (World.block_lt_of_cell? w _ h1)).trans h1) ((b.cell (p := ⟨p2, 1, none⟩) (World.block_lt_of_cell? w _ h2)).trans h2) a1 a2 fun U bU => ?_
  exact hq U k so ao sn sc an ac (btw b bU b.size) hk (a3.below bU (Nat.le_refl _)) a4 (a5.below bU (Nat.le_refl _)) a6

set_option maxHeartbeats 4000000 in
theorem lift1_join (R : Array Value) (r : Int) (so ao : Option Addr) (sn sc an ac : Nat) (sh at' : List Int) (gE : Nat → Int) (ys : Nat → List Int × List Int) (n : Nat) (w : World) (r1 : -9223372036854775808 ≤ r) (r2 : r ≤ 9223372036854775807) (hr : (r == 0) = false) (hw : ¬ (sn : Int) ≤ r)
    (hs : Rd w so sn sh) (ss : Sl so sn sc) (ha : Rd w ao an at') (sa : Sl ao an ac) (h0 : mayA sh at' = 0) (hn : npl sh r = n) (n0 : 0 < n) (hq : OneK w R n (cls sh at' r) gE ys) :
    Calls Tryz.prog 36 #[.agg #[.slice so sn sc, .slice ao an ac], .int .i64 r, .func (.func 37) #[.agg R] #[]] w fun e w' => AnsP w (lF gE (frm sh r) ys n) (lS gE (frm sh r) ys n) (lA gE (frm sh r) ys n) e w' := by
  have b1 := box_below w (.cells #[.slice so sn sc, .slice ao an ac] 36)
  have b2 := btw b1 (box_below _ (.cells #[.func (.func 37) #[.agg R] #[]] 81)) b1.size
  have b3 := btw b2 (box_below _ (.cells #[.slice none 0 0, .slice none 0 0] 36)) b2.size
  have n3 := allocNew ((w.alloc (.cells #[.slice so sn sc, .slice ao an ac] 36)).alloc (.cells #[.func (.func 37) #[.agg R] #[]] 81)) (.cells #[.slice none 0 0, .slice none 0 0] 36)
  have a2 := allocNew (w.alloc (.cells #[.slice so sn sc, .slice ao an ac] 36)) (.cells #[.func (.func 37) #[.agg R] #[]] 81)
  rw [World.size_alloc] at a2
  have n2 := ((box_below ((w.alloc (.cells #[.slice so sn sc, .slice ao an ac] 36)).alloc (.cells #[.func (.func 37) #[.agg R] #[]] 81)) (.cells #[.slice none 0 0, .slice none 0 0] 36)).block (w.heap.size + 1) (by simp)).trans a2
  have n1 := ((btw (box_below (w.alloc (.cells #[.slice so sn sc, .slice ao an ac] 36)) (.cells #[.func (.func 37) #[.agg R] #[]] 81)) (box_below _ (.cells #[.slice none 0 0, .slice none 0 0] 36)) (by simp)).block w.heap.size (by simp <;> omega)).trans (allocNew w (.cells #[.slice so sn sc, .slice ao an ac] 36))
  rw [World.size_alloc, World.size_alloc] at n3
  clear b1 b2 a2
  have t2 : decide ((sn : Int) ≤ r) = false := by simpa using hw
  clear hw
  have hwh := whole_any so ao sn sc an ac r (((w.alloc (.cells #[.slice so sn sc, .slice ao an ac] 36)).alloc (.cells #[.func (.func 37) #[.agg R] #[]] 81)).alloc (.cells #[.slice none 0 0, .slice none 0 0] 36))
  rw [t2] at hwh
  clear t2
  have K := bk_of r h0
  have hbg := K.beg (by omega)
  have hpr : (n : Int) = pr (frm sh r) := by
    have := (prF_bd (mayF_take (mayA_zero h0).1 (sh.length - rankF sh.length r))).1
    rw [← hn]; unfold npl
    have e : frm sh r = sh.take (sh.length - rankF sh.length r) := rfl
    rw [← e] at this
    omega
  have n5 : n ≤ 4096 := by
    have := (prF_bd (mayF_take (mayA_zero h0).1 (sh.length - rankF sh.length r))).2
    have e : frm sh r = sh.take (sh.length - rankF sh.length r) := rfl
    rw [← e] at this
    omega
  have hone := fun V (x : Rd V so sn sh) (y : Rd V ao an at') => one_ok so ao sn sc an ac sh at' r V x ss y sa h0 r1 r2
  rw [hn] at hone
  generalize hF : frm sh r = fs at *
  generalize hI : inn sh r = ii at *
  generalize hZ : clz sh r = zz at *
  have HB : Hid (begE fs = 0) := hbg
  have HP : Hid ((n : Int) = pr fs) := hpr
  have HQ : Hid (OneK w R n (cls sh at' r) gE ys) := hq
  have tn : ((n : Int) == 0) = false := by simp; omega
  clear hbg hpr hq hn hF hI hZ K h0
  generalize cls sh at' r = xs at *
  generalize hE : lF gE fs ys n = E at *
  generalize hS : lS gE fs ys n = S at *
  generalize hA : lA gE fs ys n = A at *
  have HE : Hid (lF gE fs ys n = E ∧ lS gE fs ys n = S ∧ lA gE fs ys n = A) := ⟨hE, hS, hA⟩
  clear hE hS hA
  go_enter Tryz.func36, Tryz.ntmps36
  go_wp2_with (first
    | (go_at_call 55; (with_reducible refine hwh.mono ?_); rintro e w4 ⟨rfl, k4⟩
       have b4 := btw b3 k4 b3.size
       have s4 := k4.size
       rw [World.size_alloc, World.size_alloc, World.size_alloc] at s4
       have m3 := (k4.block (w.heap.size + 2) (by simp <;> omega)).trans n3
       have m2 := (k4.block (w.heap.size + 1) (by simp <;> omega)).trans n2
       have m1 := (k4.block w.heap.size (by simp <;> omega)).trans n1
       obtain ⟨x0, x1, _, _⟩ := box2 m1
       have ho := hone w4 (hs.below b4 (Nat.le_refl _)) (ha.below b4 (Nat.le_refl _))
       clear hwh n1 n2 n3 k4 hone)
    | (go_at_call 14; (with_reducible refine ho.mono ?_); rintro e w5 ⟨fo, fn, fc, gg, u1, v1, x1', u2, v2, x2', rfl, f1, f2, f3, f4, f5, k5⟩
       have kb := box_below w5 (.cells #[.slice fo fn fc, .slice (some ⟨gg, 0, none⟩) n n, .slice u1 v1 x1', .slice u2 v2 x2'] 40)
       have k6 := btw k5 kb k5.size
       have b6 := btw b4 k6 b4.size
       have s5 := k5.size
       have s6 := kb.size
       have p3 := (k6.block (w.heap.size + 2) (by omega)).trans m3
       have p2 := (k6.block (w.heap.size + 1) (by omega)).trans m2
       obtain ⟨y0, y1, y2, y3, _⟩ := box4 (allocNew w5 (.cells #[.slice fo fn fc, .slice (some ⟨gg, 0, none⟩) n n, .slice u1 v1 x1', .slice u2 v2 x2'] 40))
       have yd := (cell_of_row _ (w.heap.size + 1) 0 _ 81 (0, 0) p2).trans rfl
       have hj := joined_1 (w.heap.size + 1) w5.heap.size fo fn fc fs n gE ys _ (f1.rd.below kb (Nat.le_refl _)) f1.sl HB.out HP.out (lift1_each (xs := xs) yd y1 ((f2.below kb).as n5) (HQ.out.below b6))
       rw [HE.out.1, HE.out.2.1, HE.out.2.2] at hj
       clear ho m1 m2 m3 x0 x1)
    | (go_at_call 57; (with_reducible refine hj.mono ?_); rintro e w7 ⟨o1, n1', c1, o2, n2', c2, rfl, g1, g2, k7⟩
       have b7 := btw b6 k7 b6.size
       obtain ⟨z0, z1, z2, z3⟩ := box2 ((k7.block (w.heap.size + 2) (by omega)).trans p3)
       clear hj))
  (try simp only [Exit.inBlock, Exit.then])
  refine bodyPost_ret (v := .tuple #[.agg #[.slice o1 n1' c1, .slice o2 n2' c2], .int .i64 E]) (by rw [results_cell_tmp rfl]; go_simp) rfl ?_
  exact ansP_box g1 g2 (by omega) (by omega) b7
end Go.Proofs.YtelcagfaflpolaaGreat
