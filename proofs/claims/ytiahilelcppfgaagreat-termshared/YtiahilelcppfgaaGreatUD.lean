
/- TermAll: any call is as the document says. -/

import Derived.Test.YtiahilelcppfgaaGreatSU

import Derived.Test.YtiahilelcppfgaaGreatSI

import Derived.Test.YtiahilelcppfgaaGreatUA

import Derived.Test.YtiahilelcppfgaaGreatSA

import Derived.Test.YtiahilelcppfgaaGreatUB

namespace Go.Proofs.YtiahilelcppfgaaGreat

open Go.RowKit

set_option linter.unusedVariables false

theorem pcat_in {α : Type} {f : Nat → List α} {a : α} {i : Nat} (h : a ∈ f i) : ∀ {m : Nat}, i < m → a ∈ pcat f m
  | 0, hi => by omega
  | m + 1, hi => by
    by_cases e : i = m
    · subst e; exact List.mem_append.2 (.inr h)
    · exact List.mem_append.2 (.inl (pcat_in h (by omega)))
/-- Does this node name that text? -/
def nmZ (b : List UInt8) (z : Nz) : Prop := isNm z.x.nd.k = true ∧ z.x.nd.t.data.toList = b
theorem gat_iff (b : List UInt8) : ∀ z : Nz, (¬ b ∈ bys (gat (z.d + 1) z.x)) ↔ (¬ nmZ b z ∧ ∀ y ∈ kidsZ z, ¬ b ∈ bys (gat (y.d + 1) y.x)) := by
  have key : ∀ (d : Nat) (x : Tr (d + 1)) (dp : Nat) (c : Bool), b ∈ bys (gat (d + 1) x) ↔ (nmZ b ⟨d, x, dp, c⟩ ∨ ∃ i, i < x.ks.length ∧ b ∈ bys ((x.ks[i]?).elim [] (gat d))) := fun d x dp c => by
    have eg : gat (d + 1) x = (if isNm x.nd.k then [x.nd.t] else []) ++ pcat (fun i => (x.ks[i]?).elim [] (gat d)) x.ks.length := rfl
    unfold bys nmZ
    rw [eg, List.map_append, List.mem_append]
    constructor
    · rintro (h | h)
      · cases hi : isNm x.nd.k
        · rw [hi] at h; simp at h
        · rw [hi] at h; exact .inl ⟨rfl, by simpa [eq_comm] using h⟩
      · obtain ⟨t, ht, e⟩ := List.mem_map.1 h
        obtain ⟨i, hi, hm⟩ := pcat_mem ht
        exact .inr ⟨i, hi, List.mem_map.2 ⟨t, hm, e⟩⟩
    · rintro (⟨h1, h2⟩ | ⟨i, hi, h⟩)
      · exact .inl (by show b ∈ List.map _ (if isNm x.nd.k then [x.nd.t] else []); rw [h1]; simp; exact h2.symm)
      · obtain ⟨t, ht, e⟩ := List.mem_map.1 h
        exact .inr (List.mem_map.2 ⟨t, pcat_in (f := fun i => (x.ks[i]?).elim [] (gat d)) ht hi, e⟩)
  intro z
  match z with
  | ⟨0, x, dp, c⟩ =>
    have hk := ks_zero x
    rw [key 0 x dp c]
    simp only [kidsZ, hk, List.length_nil, Nat.not_lt_zero, false_and, exists_false, or_false, List.not_mem_nil, false_implies, implies_true, and_true]
  | ⟨d + 1, x, dp, c⟩ =>
    rw [key (d + 1) x dp c, not_or]
    refine and_congr Iff.rfl ⟨fun h y hy hb => ?_, fun h => ?_⟩
    · obtain ⟨t, ht, rfl⟩ := List.mem_map.1 hy
      obtain ⟨i, hi, e⟩ := List.getElem_of_mem ht
      exact h ⟨i, hi, by rw [List.getElem?_eq_getElem hi, e]; exact hb⟩
    · rintro ⟨i, hi, hb⟩
      rw [List.getElem?_eq_getElem hi] at hb
      exact h ⟨d, x.ks[i], dp + 1, _⟩ (List.mem_map.2 ⟨_, List.getElem_mem hi, rfl⟩) hb
/-- What a term names is what the nodes in its row name. -/
theorem names_row {d : Nat} {x : Tr (d + 1)} {m : List Nz} (h : rowT d x = some m) (b : List UInt8) : b ∈ bys (gat (d + 1) x) ↔ ∃ z ∈ m, nmZ b z := by
  have q := (row_all (A := fun z => ¬ b ∈ bys (gat (z.d + 1) z.x)) (P := fun z => ¬ nmZ b z) (gat_iff b) 4097 0 [⟨d, x, 1, false⟩] m (by simp) (by omega) (by simp) h).1
  have q' : (¬ b ∈ bys (gat (d + 1) x)) ↔ ∀ z ∈ m, ¬ nmZ b z := by simpa using q
  constructor
  · intro hb
    exact Classical.byContradiction fun hn => (q'.2 fun z hz e => hn ⟨z, hz, e⟩) hb
  · rintro ⟨z, hz, e⟩
    exact Classical.byContradiction fun hn => q'.1 hn z hz e
theorem sr_own {W : World} {B n c : Nat} {o : Option Addr} {l : List ByteArray} (h : W.ownsRow B 9 1 (.slice o n c) n (l.map Value.string)) (h0 : 0 < n) : ∃ g, o = some ⟨g, 0, none⟩ ∧ B ≤ g ∧ Sr W g (bys l) := by
  have hl : l.length = n := by have := h.1; simpa using this
  rcases h.2 with ⟨_, e⟩ | ⟨g, cap, cur, e, hB, hg, hnc, hcm, hcs, ht⟩
  · omega
  · injection e with e1 e2 e3
    subst e1 e3
    refine ⟨g, rfl, hB, (Array.getElem?_eq_some_iff.1 hg).1, fun i hi => ⟨?_, frozen_of_row W g i cur _ hg⟩⟩
    have hi' : i < l.length := by simpa [bys] using hi
    rw [cell_of_row W g i cur _ _ hg, ← Array.getElem?_toList, ← List.getElem?_take_of_lt (i := i) (j := n * 1) (by omega), ht]
    simp [bys, List.getD, hi']
set_option linter.unusedSimpArgs false in
set_option maxRecDepth 100000 in
set_option maxHeartbeats 4000000 in
theorem rnames_any (d : Nat) (x : Tr (d + 1)) (c0 c1 c2 c3 c4 c5 : Value) (w : World) (h : Tv w (d + 1) x [c0, c1, c2, c3, c4, c5]) :
    Calls Tryz.prog 32 #[.agg #[c0, c1, c2, c3, c4, c5]] w fun e w' => NmP (nmT (d + 1) x) w e w' := by
  obtain ⟨k, t, n, so, sn, sc, ao, an, ac, uo, un, uc, ev⟩ := h.form
  injection ev with ev0 ev
  injection ev with ev1 ev
  injection ev with ev2 ev
  injection ev with ev3 ev
  injection ev with ev4 ev
  injection ev with ev5 ev
  subst ev0 ev1 ev2 ev3 ev4 ev5
  have k0 := box_below w (.cells #[.int .i64 k, .string t, .int .i64 n, .slice so sn sc, .slice ao an ac, .slice uo un uc] 31)
  have box := allocNew w (.cells #[.int .i64 k, .string t, .int .i64 n, .slice so sn sc, .slice ao an ac, .slice uo un uc] 31)
  obtain ⟨q0, q1, q2, q3, q4, q5⟩ := box6 box
  have hr := row_any d x _ _ _ _ _ _ w (w.alloc (.cells #[.int .i64 k, .string t, .int .i64 n, .slice so sn sc, .slice ao an ac, .slice uo un uc] 31)) h k0
  have hz := row_size d x
  cases ho : szO (d + 1) x
  · have en : nmT (d + 1) x = [] := by unfold nmT; rw [ho]; rfl
    rw [hz.2 ho] at hr
    dsimp only [RowP] at hr
    rw [en]
    clear ho hz h en
    go_enter Tryz.func32, Tryz.ntmps32
    go_wp2_with (go_at_call 49; (with_reducible refine hr.mono ?_); rintro e w1 ⟨rfl, b1⟩)
    go_loopw [5, 6] (fun ov iv V => ov = .slice none 0 0 ∧ iv = .int .i64 0 ∧ V = w1) (fun _ _ _ => 0)
    case atStart => exact ⟨rfl, rfl, rfl⟩
    case round =>
      obtain ⟨rfl, rfl, rfl⟩ := hrel
      have t3 : decide ((0 : Int) < (0 : Int)) = false := by simp
      go_wp2
      go_ret
      exact ⟨none, 0, rfl, k0.trans (b1.mono k0.size), fun h => absurd h (Nat.lt_irrefl 0)⟩
  obtain ⟨m, em, hml⟩ := hz.1 ho
  have HM4 : Hid (m.length ≤ 4096) := by
    have hd := of_decide_eq_true (show decide (nds (d + 1) x ≤ 4096 ∧ dep (d + 1) x ≤ 256) = true from ho)
    show _ ≤ _
    omega
  have hfr := names_row em
  rw [em] at hr
  dsimp only [RowP] at hr
  have HE : Hid (∀ l : List ByteArray, (bys l).Pairwise (· < ·) → (∀ b, b ∈ bys l ↔ ∃ z ∈ m, nmZ b z) → bys l = nmT (d + 1) x) := fun l h1 h2 => by
    have en : nmT (d + 1) x = nmL (gat (d + 1) x) := by unfold nmT; rw [ho]; rfl
    rw [en]
    exact rise_ext h1 (nm_facts _).1 fun b => by rw [h2, (nm_facts _).2, hfr]
  generalize nmT (d + 1) x = R at *
  clear ho hz hml em hfr
  have hmL : m.length ≤ 4096 := HM4.out
  obtain ⟨L, hL⟩ : ∃ L, L = m.length := ⟨_, rfl⟩
  have HL : Hid (L = m.length) := hL
  rw [← hL] at hr hmL
  clear hL h
  go_enter Tryz.func32, Tryz.ntmps32
  go_wp2_with (go_at_call 49; (with_reducible refine hr.mono ?_); rintro e w1 ⟨o, cc, vals, rfl, N⟩
               have B0 := k0.trans (N.bel.mono k0.size)
               have HN : Hid (_) := N
               clear N hr)
  go_loopw [5, 6] (fun ov iv V => ∃ (l : List ByteArray) (o' : Option Addr) (c' i : Nat), i ≤ L ∧ ov = .slice o' l.length c' ∧ iv = .int .i64 (i : Nat) ∧ V.ownsRow w1.heap.size 9 1 (.slice o' l.length c') l.length (l.map Value.string) ∧ Below w1.heap.size w1 V ∧ Hid (l.length ≤ i) ∧ Hid ((bys l).Pairwise (· < ·) ∧ ∀ b, b ∈ bys l ↔ ∃ j, j < i ∧ ∃ z, m[j]? = some z ∧ nmZ b z)) (fun _ iv _ => L - (intOf iv).toNat)
  case atStart => exact ⟨[], none, 0, 0, Nat.zero_le _, rfl, rfl, World.ownsRow_nil _ _ _ _, Below.refl _ _, (Nat.le_refl _ : 0 ≤ 0), ⟨List.Pairwise.nil, fun b => ⟨fun h => (by simp [bys] at h), fun ⟨j, hj, _⟩ => absurd hj (Nat.not_lt_zero _)⟩⟩⟩
  case round =>
    obtain ⟨l, o', c', i, hi, rfl, rfl, OW, B, HLE, HJ⟩ := hrel
    have BW := B0.trans (B.mono B0.size)
    by_cases hlt : i < L
    · have t3 : decide ((i : Int) < (L : Int)) = true := by simp; omega
      have bi : (i : Int) < (L : Int) := by omega
      obtain ⟨z, hz⟩ : ∃ z, m[i]? = some z := ⟨m[i]'(by rw [← HL.out]; omega), by simp⟩
      obtain ⟨G, d0, d1, d2, d3, d4, d5, rfl, hGB, hGV, tz, p0, p1, p2, p3, p4, p5, p6, p7⟩ := zcell HN.out hz
      obtain ⟨so3, sn3, sc3, ao3, an3, ac3, uo3, uc3, ev, _⟩ := tz.val
      injection ev with ev0 ev
      injection ev with ev1 ev
      injection ev with ev2 ev
      injection ev with ev3 ev
      injection ev with ev4 ev
      injection ev with ev5 ev
      subst ev0 ev1 ev2 ev3 ev4 ev5
      have HZ : Hid (m[i]? = some z) := hz
      have HNZ : Hid (∀ b, nmZ b z ↔ (isNm z.x.nd.k = true ∧ z.x.nd.t.data.toList = b)) := fun b => Iff.rfl
      replace p0 := (B.cell (p := ⟨G, i * 8, none⟩) hGV).trans p0
      replace p1 := (B.cell (p := ⟨G, i * 8 + 1, none⟩) hGV).trans p1
      clear p2 p3 p4 p5 p6 p7 tz hz
      generalize z.x.nd.k = k3 at *
      generalize z.x.nd.t = t3' at *
      cases hq : isNm k3
      · have e2 : (k3 == 2) = false := by unfold isNm at hq; simp at hq; simp; omega
        have e21 : (k3 == 21) = false := by unfold isNm at hq; simp at hq; simp; omega
        have e11 : (k3 == 11) = false := by unfold isNm at hq; simp at hq; simp; omega
        have HQ : Hid (isNm k3 = false) := hq
        clear hq
        go_wp2
        go_roundw
        case rel => exact ⟨l, o', c', i + 1, by omega, by first | trivial | rfl, by go_num, OW, B, (show l.length ≤ i + 1 by have := HLE.out; omega), ⟨HJ.out.1, fun b => by
          rw [HJ.out.2]
          constructor
          · rintro ⟨j, hj, z', hz', e⟩
            exact ⟨j, by omega, z', hz', e⟩
          · rintro ⟨j, hj, z', hz', e⟩
            by_cases ej : j = i
            · subst ej
              rw [HZ.out] at hz'
              rw [← Option.some.inj hz'] at e
              have := ((HNZ.out b).1 e).1
              rw [HQ.out] at this; cases this
            · exact ⟨j, by omega, z', hz', e⟩⟩⟩
        case measure => simp [intOf] <;> omega
      · have hd : k3 = 2 ∨ k3 = 21 ∨ k3 = 11 := by unfold isNm at hq; simp at hq; exact hq
        clear hq
        rcases hd with rfl | rfl | rfl
        · skip
          have HIS : Hid (isNm 2 = true) := by show _ = _; decide
          go_wp2_with (go_at_call 52; (with_reducible refine (put_any l t3' o' c' w1.heap.size _ OW B.size (by have := HLE.out; omega)).mono ?_); rintro e w5 ⟨l5, o5, c5', rfl, own5, b5, len5, fact5⟩)
          go_roundw
          case rel =>
            have f5 := fact5 HJ.out.1
            exact ⟨l5, o5, c5', i + 1, by omega, by first | trivial | rfl, by go_num, own5, B.trans b5, (show l5.length ≤ i + 1 by have := HLE.out; omega), ⟨f5.1, fun b => by
              rw [f5.2, HJ.out.2]
              constructor
              · rintro (⟨j, hj, z', hz', e⟩ | e)
                · exact ⟨j, by omega, z', hz', e⟩
                · exact ⟨i, Nat.lt_succ_self _, z, HZ.out, (HNZ.out b).2 ⟨HIS.out, e.symm⟩⟩
              · rintro ⟨j, hj, z', hz', e⟩
                by_cases ej : j = i
                · subst ej
                  rw [HZ.out] at hz'
                  rw [← Option.some.inj hz'] at e
                  exact .inr ((HNZ.out b).1 e).2.symm
                · exact .inl ⟨j, by omega, z', hz', e⟩⟩⟩
          case measure => simp [intOf] <;> omega
        · skip
          have HIS : Hid (isNm 21 = true) := by show _ = _; decide
          go_wp2_with (go_at_call 52; (with_reducible refine (put_any l t3' o' c' w1.heap.size _ OW B.size (by have := HLE.out; omega)).mono ?_); rintro e w5 ⟨l5, o5, c5', rfl, own5, b5, len5, fact5⟩)
          go_roundw
          case rel =>
            have f5 := fact5 HJ.out.1
            exact ⟨l5, o5, c5', i + 1, by omega, by first | trivial | rfl, by go_num, own5, B.trans b5, (show l5.length ≤ i + 1 by have := HLE.out; omega), ⟨f5.1, fun b => by
              rw [f5.2, HJ.out.2]
              constructor
              · rintro (⟨j, hj, z', hz', e⟩ | e)
                · exact ⟨j, by omega, z', hz', e⟩
                · exact ⟨i, Nat.lt_succ_self _, z, HZ.out, (HNZ.out b).2 ⟨HIS.out, e.symm⟩⟩
              · rintro ⟨j, hj, z', hz', e⟩
                by_cases ej : j = i
                · subst ej
                  rw [HZ.out] at hz'
                  rw [← Option.some.inj hz'] at e
                  exact .inr ((HNZ.out b).1 e).2.symm
                · exact .inl ⟨j, by omega, z', hz', e⟩⟩⟩
          case measure => simp [intOf] <;> omega
        · skip
          have HIS : Hid (isNm 11 = true) := by show _ = _; decide
          go_wp2_with (go_at_call 52; (with_reducible refine (put_any l t3' o' c' w1.heap.size _ OW B.size (by have := HLE.out; omega)).mono ?_); rintro e w5 ⟨l5, o5, c5', rfl, own5, b5, len5, fact5⟩)
          go_roundw
          case rel =>
            have f5 := fact5 HJ.out.1
            exact ⟨l5, o5, c5', i + 1, by omega, by first | trivial | rfl, by go_num, own5, B.trans b5, (show l5.length ≤ i + 1 by have := HLE.out; omega), ⟨f5.1, fun b => by
              rw [f5.2, HJ.out.2]
              constructor
              · rintro (⟨j, hj, z', hz', e⟩ | e)
                · exact ⟨j, by omega, z', hz', e⟩
                · exact ⟨i, Nat.lt_succ_self _, z, HZ.out, (HNZ.out b).2 ⟨HIS.out, e.symm⟩⟩
              · rintro ⟨j, hj, z', hz', e⟩
                by_cases ej : j = i
                · subst ej
                  rw [HZ.out] at hz'
                  rw [← Option.some.inj hz'] at e
                  exact .inr ((HNZ.out b).1 e).2.symm
                · exact .inl ⟨j, by omega, z', hz', e⟩⟩⟩
          case measure => simp [intOf] <;> omega
    · obtain rfl : i = L := by omega
      have t3 : decide ((i : Int) < (i : Int)) = false := by simp
      have HR : Hid (bys l = R) := HE.out l HJ.out.1 (fun b => by
        rw [HJ.out.2]
        constructor
        · rintro ⟨j, hj, z, hz, e⟩
          exact ⟨z, List.mem_of_getElem? hz, e⟩
        · rintro ⟨z, hz, e⟩
          obtain ⟨j, hj, e2⟩ := List.getElem_of_mem hz
          exact ⟨j, by rw [HL.out]; exact hj, z, by rw [← e2]; exact List.getElem?_eq_getElem hj, e⟩)
      go_wp2
      go_ret
      have hl : l.length = R.length := by rw [← HR.out]; simp [bys]
      refine ⟨o', c', by rw [← hl]; rfl, BW, fun h0 => ?_⟩
      obtain ⟨g, e, hB, hs⟩ := sr_own OW (by omega)
      rw [HR.out] at hs
      exact ⟨g, e, Nat.le_trans B0.size hB, hs⟩
end Go.Proofs.YtiahilelcppfgaaGreat

namespace Go.Proofs.YtiahilelcppfgaaGreat

open Go.RowKit

set_option linter.unusedVariables false

theorem nmT_len (d : Nat) (x : Tr d) : (nmT d x).length ≤ 4096 := by
  unfold nmT
  cases ho : szO d x
  · exact Nat.zero_le _
  · have hd := of_decide_eq_true (show decide (nds d x ≤ 4096 ∧ dep d x ≤ 256) = true from ho)
    refine Nat.le_trans (compact_le _) ?_
    rw [List.length_mergeSort]
    have := gat_len d x
    simp only [bys, List.length_map]
    omega
set_option linter.unusedSimpArgs false in
set_option maxRecDepth 100000 in
set_option maxHeartbeats 4000000 in
theorem play_5 (d e : Nat) (x : Tr (d + 1)) (y : Tr (e + 1)) (k1 n1 k2 n2 c : Int) (t1 t2 : ByteArray) (so1 ao1 uo1 so2 ao2 uo2 : Option Addr) (sn1 sc1 an1 ac1 un1 uc1 sn2 sc2 an2 ac2 un2 uc2 : Nat) (w : World) (hT : Tv w (d + 1) x [.int .i64 k1, .string t1, .int .i64 n1, .slice so1 sn1 sc1, .slice ao1 an1 ac1, .slice uo1 un1 uc1]) (hU : Tv w (e + 1) y [.int .i64 k2, .string t2, .int .i64 n2, .slice so2 sn2 sc2, .slice ao2 an2 ac2, .slice uo2 un2 uc2]) :
    Calls Tryz.prog 10 #[.agg #[.int .i64 5, .int .i64 k1, .string t1, .int .i64 n1, .slice so1 sn1 sc1, .slice ao1 an1 ac1, .slice uo1 un1 uc1, .int .i64 k2, .string t2, .int .i64 n2, .slice so2 sn2 sc2, .slice ao2 an2 ac2, .slice uo2 un2 uc2, .int .i64 c]] w fun e w' => e = .returned (.bool true) ∧ Below w.heap.size w w' := by
  have k0 := box_below w (.cells #[.int .i64 5, .int .i64 k1, .string t1, .int .i64 n1, .slice so1 sn1 sc1, .slice ao1 an1 ac1, .slice uo1 un1 uc1, .int .i64 k2, .string t2, .int .i64 n2, .slice so2 sn2 sc2, .slice ao2 an2 ac2, .slice uo2 un2 uc2, .int .i64 c] 33)
  have box := allocNew w (.cells #[.int .i64 5, .int .i64 k1, .string t1, .int .i64 n1, .slice so1 sn1 sc1, .slice ao1 an1 ac1, .slice uo1 un1 uc1, .int .i64 k2, .string t2, .int .i64 n2, .slice so2 sn2 sc2, .slice ao2 an2 ac2, .slice uo2 un2 uc2, .int .i64 c] 33)
  have HS : Hid (∀ V, Below (w.alloc (.cells #[.int .i64 5, .int .i64 k1, .string t1, .int .i64 n1, .slice so1 sn1 sc1, .slice ao1 an1 ac1, .slice uo1 un1 uc1, .int .i64 k2, .string t2, .int .i64 n2, .slice so2 sn2 sc2, .slice ao2 an2 ac2, .slice uo2 un2 uc2, .int .i64 c] 33)).heap.size (w.alloc (.cells #[.int .i64 5, .int .i64 k1, .string t1, .int .i64 n1, .slice so1 sn1 sc1, .slice ao1 an1 ac1, .slice uo1 un1 uc1, .int .i64 k2, .string t2, .int .i64 n2, .slice so2 sn2 sc2, .slice ao2 an2 ac2, .slice uo2 un2 uc2, .int .i64 c] 33)) V → V.cell? ⟨w.heap.size, 0, none⟩ = some (.int .i64 5) ∧ V.cell? ⟨w.heap.size, 1, none⟩ = some (.int .i64 k1) ∧ V.cell? ⟨w.heap.size, 2, none⟩ = some (.string t1) ∧ V.cell? ⟨w.heap.size, 3, none⟩ = some (.int .i64 n1) ∧ V.cell? ⟨w.heap.size, 4, none⟩ = some (.slice so1 sn1 sc1) ∧ V.cell? ⟨w.heap.size, 5, none⟩ = some (.slice ao1 an1 ac1) ∧ V.cell? ⟨w.heap.size, 6, none⟩ = some (.slice uo1 un1 uc1) ∧ V.cell? ⟨w.heap.size, 7, none⟩ = some (.int .i64 k2) ∧ V.cell? ⟨w.heap.size, 8, none⟩ = some (.string t2) ∧ V.cell? ⟨w.heap.size, 9, none⟩ = some (.int .i64 n2) ∧ V.cell? ⟨w.heap.size, 10, none⟩ = some (.slice so2 sn2 sc2) ∧ V.cell? ⟨w.heap.size, 11, none⟩ = some (.slice ao2 an2 ac2) ∧ V.cell? ⟨w.heap.size, 12, none⟩ = some (.slice uo2 un2 uc2) ∧ V.cell? ⟨w.heap.size, 13, none⟩ = some (.int .i64 c)) := fun V hV => box14 ((hV.block w.heap.size (by simp)).trans box)
  obtain ⟨q0, q1, q2, q3, q4, q5, q6, q7, q8, q9, q10, q11, q12, q13⟩ := HS.out _ (Below.refl _ _)
  have hc1 := fun V (hV : Below w.heap.size w V) => names_any (d + 1) x _ _ _ _ _ _ V (Tv.below hV (Nat.le_refl _) _ _ _ hT)
  have hc2 := fun V (hV : Below w.heap.size w V) => rnames_any d x _ _ _ _ _ _ V (Tv.below hV (Nat.le_refl _) _ _ _ hT)
  have HL : Hid ((nmT (d + 1) x).length ≤ 5000) := Nat.le_trans (nmT_len _ _) (by omega)
  generalize nmT (d + 1) x = R at *
  go_enter Tryz.func10, Tryz.ntmps10
  go_upto_region 13 with fail
  generalize hW : (w.alloc (.cells #[.int .i64 5, .int .i64 k1, .string t1, .int .i64 n1, .slice so1 sn1 sc1, .slice ao1 an1 ac1, .slice uo1 un1 uc1, .int .i64 k2, .string t2, .int .i64 n2, .slice so2 sn2 sc2, .slice ao2 an2 ac2, .slice uo2 un2 uc2, .int .i64 c] 33)) = W at *
  clear hW box
  clear hT hU
  go_wp2_with (first
    | (go_at_call 17; (with_reducible refine (hc1 _ k0).mono ?_); rintro e w5 ⟨o1, p1, rfl, b5, s1⟩; obtain ⟨r0, r1, r2, r3, r4, r5, r6, r7, r8, r9, r10, r11, r12, r13⟩ := HS.out w5 b5)
    | (go_at_call 32; (with_reducible refine (hc2 _ (k0.trans (b5.mono k0.size))).mono ?_); rintro e w6 ⟨o2, p2, rfl, b6, s2⟩
       have ht := texts_any R R o1 o2 p1 p2 w6 (fun h0 => by obtain ⟨g, e, _, s⟩ := s1 h0; exact ⟨g, e, s.below b6⟩) (fun h0 => by obtain ⟨g, e, _, s⟩ := s2 h0; exact ⟨g, e, s⟩) HL.out HL.out
       clear s1 s2)
    | (go_at_call 18; (with_reducible refine ht.mono ?_); rintro e w7 ⟨rfl, qq, hw⟩; have b7 : Below w6.heap.size w6 (w6.drewN qq) := below_drewN (Below.refl _ _) _))
  go_ret
  exact ⟨ret_bool (by simp), k0.trans ((b5.trans ((b6.trans (b7.mono b6.size)).mono b5.size)).mono k0.size)⟩
end Go.Proofs.YtiahilelcppfgaaGreat

namespace Go.Proofs.YtiahilelcppfgaaGreat

open Go.RowKit

set_option linter.unusedVariables false

theorem plays_any (k : Int) (d e : Nat) (x : Tr d) (y : Tr e) (k1 n1 k2 n2 c : Int) (t1 t2 : ByteArray) (so1 ao1 uo1 so2 ao2 uo2 : Option Addr) (sn1 sc1 an1 ac1 un1 uc1 sn2 sc2 an2 ac2 un2 uc2 : Nat) (w : World) (hT : Tv w d x [.int .i64 k1, .string t1, .int .i64 n1, .slice so1 sn1 sc1, .slice ao1 an1 ac1, .slice uo1 un1 uc1]) (hU : Tv w e y [.int .i64 k2, .string t2, .int .i64 n2, .slice so2 sn2 sc2, .slice ao2 an2 ac2, .slice uo2 un2 uc2]) :
    Calls Tryz.prog 10 #[.agg #[.int .i64 k, .int .i64 k1, .string t1, .int .i64 n1, .slice so1 sn1 sc1, .slice ao1 an1 ac1, .slice uo1 un1 uc1, .int .i64 k2, .string t2, .int .i64 n2, .slice so2 sn2 sc2, .slice ao2 an2 ac2, .slice uo2 un2 uc2, .int .i64 c]] w fun e w' => e = .returned (.bool true) ∧ Below w.heap.size w w' := by
  cases d with
  | zero => exact hT.elim
  | succ d =>
    cases e with
    | zero => exact hU.elim
    | succ e =>
      by_cases h1 : k = 1
      · subst h1; exact play_1 d e x y k1 n1 k2 n2 c t1 t2 so1 ao1 uo1 so2 ao2 uo2 sn1 sc1 an1 ac1 un1 uc1 sn2 sc2 an2 ac2 un2 uc2 w hT hU
      by_cases h2 : k = 2
      · subst h2; exact play_2 d e x y k1 n1 k2 n2 c t1 t2 so1 ao1 uo1 so2 ao2 uo2 sn1 sc1 an1 ac1 un1 uc1 sn2 sc2 an2 ac2 un2 uc2 w hT hU
      by_cases h3 : k = 3
      · subst h3; exact play_3 d e x y k1 n1 k2 n2 c t1 t2 so1 ao1 uo1 so2 ao2 uo2 sn1 sc1 an1 ac1 un1 uc1 sn2 sc2 an2 ac2 un2 uc2 w hT hU
      by_cases h4 : k = 4
      · subst h4; exact play_4 d e x y k1 n1 k2 n2 c t1 t2 so1 ao1 uo1 so2 ao2 uo2 sn1 sc1 an1 ac1 un1 uc1 sn2 sc2 an2 ac2 un2 uc2 w hT hU
      by_cases h5 : k = 5
      · subst h5; exact play_5 d e x y k1 n1 k2 n2 c t1 t2 so1 ao1 uo1 so2 ao2 uo2 sn1 sc1 an1 ac1 un1 uc1 sn2 sc2 an2 ac2 un2 uc2 w hT hU
      by_cases h6 : k = 6
      · subst h6; exact play_6 d e x y k1 n1 k2 n2 c t1 t2 so1 ao1 uo1 so2 ao2 uo2 sn1 sc1 an1 ac1 un1 uc1 sn2 sc2 an2 ac2 un2 uc2 w hT hU
      exact play_0 k ⟨h1, h2, h3, h4, h5, h6⟩ k1 n1 k2 n2 c t1 t2 so1 ao1 uo1 so2 ao2 uo2 sn1 sc1 an1 ac1 un1 uc1 sn2 sc2 an2 ac2 un2 uc2 w
end Go.Proofs.YtiahilelcppfgaaGreat
