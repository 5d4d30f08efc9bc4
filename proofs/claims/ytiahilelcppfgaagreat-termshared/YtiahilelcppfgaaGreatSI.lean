
/- The document's Same. -/

import Derived.Test.YtiahilelcppfgaaGreatSB

import Derived.Test.YtiahilelcppfgaaGreatSO

import Derived.Test.YtiahilelcppfgaaGreatRX

namespace Go.Proofs.YtiahilelcppfgaaGreat

open Go.RowKit

set_option linter.unusedVariables false

theorem kidsZ_dp : ∀ (z y : Nz), y ∈ kidsZ z → y.dp = z.dp + 1
  | ⟨0, _, _, _⟩, y, h => by cases h
  | ⟨d + 1, x, dp, b⟩, y, h => by
    obtain ⟨t, _, rfl⟩ := List.mem_map.1 h
    rfl
theorem row_sorted : ∀ (f i : Nat) (l m : List Nz), l.Pairwise (fun a b => a.dp ≤ b.dp) → (∀ y, l[i]? = some y → ∀ z ∈ l, z.dp ≤ y.dp + 1) → rowF f i l = some m → m.Pairwise (fun a b => a.dp ≤ b.dp)
  | 0, i, l, m, h1, _, h => by
    rw [rowF] at h
    injection h with h
    rw [← h]; exact h1
  | f + 1, i, l, m, h1, h2, h => by
    cases hz : l[i]? with
    | none =>
      rw [rowF_none (List.getElem?_eq_none_iff.1 hz)] at h
      injection h with h
      rw [← h]; exact h1
    | some z =>
      rw [rowF_some hz] at h
      split at h
      · cases h
      have hi : i < l.length := (List.getElem?_eq_some_iff.1 hz).1
      refine row_sorted f (i + 1) _ m (List.pairwise_append.2 ⟨h1, ?_, fun a ha b hb => ?_⟩) (fun y hy a ha => ?_) h
      · refine List.pairwise_of_forall_mem_list fun a ha b hb => ?_
        rw [kidsZ_dp z a ha, kidsZ_dp z b hb]
        exact Nat.le_refl _
      · rw [kidsZ_dp z b hb]; exact h2 z hz a ha
      · have hle : z.dp ≤ y.dp := by
          by_cases q : i + 1 < l.length
          · rw [List.getElem?_append_left q] at hy
            obtain ⟨q1, e1⟩ := List.getElem?_eq_some_iff.1 hy
            obtain ⟨q2, e2⟩ := List.getElem?_eq_some_iff.1 hz
            rw [← e1, ← e2]
            exact List.pairwise_iff_getElem.1 h1 i (i + 1) q2 q1 (Nat.lt_succ_self _)
          · rw [List.getElem?_append_right (by omega)] at hy
            have := kidsZ_dp z y (List.mem_of_getElem? hy)
            omega
        rcases List.mem_append.1 ha with ha | ha
        · have := h2 z hz a ha; omega
        · have := kidsZ_dp z a ha; omega
theorem row_last {d : Nat} {x : Tr (d + 1)} {m : List Nz} (h : rowT d x = some m) : ∃ z, m[m.length - 1]? = some z ∧ z.dp = dep (d + 1) x ∧ 0 < m.length := by
  have hs := row_sorted 4097 0 _ m (List.pairwise_singleton _ _) (fun y hy z hz => by
    have e1 : y = ⟨d, x, 1, false⟩ := by simpa using hy.symm
    have e2 : z = ⟨d, x, 1, false⟩ := by simpa using hz
    rw [e1, e2]; exact Nat.le_succ _) h
  have hall := fun B => (row_all (A := fun z => rc z ≤ B) (P := fun z => z.dp + 1 ≤ B) (rc_iff B) 4097 0 _ m (by simp) (by omega) (by simp) h)
  obtain ⟨t, ht⟩ := (hall 0).2
  have hpos : 0 < m.length := by rw [← ht]; simp
  obtain ⟨z, hz⟩ : ∃ z, m[m.length - 1]? = some z := ⟨m[m.length - 1]'(by omega), by simp⟩
  refine ⟨z, hz, ?_, hpos⟩
  have hzm : z ∈ m := List.mem_of_getElem? hz
  have hrc : rc ⟨d, x, 1, false⟩ = 1 + dep (d + 1) x := rfl
  have q1 := (hall (1 + dep (d + 1) x)).1.1 (fun y hy => by simp at hy; rw [hy, hrc]; exact Nat.le_refl _) z (by simpa using hzm)
  have q2 := (hall (z.dp + 1)).1.2 (fun y hy => by
    have hy' : y ∈ m := by simpa using hy
    obtain ⟨j, hj, e⟩ := List.mem_iff_getElem.1 hy'
    obtain ⟨q3, e3⟩ := List.getElem?_eq_some_iff.1 hz
    by_cases q : j = m.length - 1
    · subst q
      rw [← e, ← e3]; exact Nat.le_refl _
    · have := List.pairwise_iff_getElem.1 hs j (m.length - 1) hj q3 (by omega)
      rw [e, e3] at this
      exact Nat.succ_le_succ this) ⟨d, x, 1, false⟩ (by simp)
  rw [hrc] at q2
  omega
end Go.Proofs.YtiahilelcppfgaaGreat

namespace Go.Proofs.YtiahilelcppfgaaGreat

open Go.RowKit

set_option linter.unusedVariables false

set_option maxHeartbeats 2000000 in
theorem rclass_any (k n : Int) (t : ByteArray) (v3 v4 v5 : Value) (w : World) :
    Calls Tryz.prog 29 #[.agg #[.int .i64 k, .string t, .int .i64 n, v3, v4, v5]] w fun e w' => e = .returned (.int .i64 (clsN k)) ∧ Below w.heap.size w w' := by
  have k0 := box_below w (.cells #[.int .i64 k, .string t, .int .i64 n, v3, v4, v5] 31)
  obtain ⟨b0, b1, b2, _, _, _⟩ := box6 (allocNew w (.cells #[.int .i64 k, .string t, .int .i64 n, v3, v4, v5] 31))
  by_cases h0 : k ≤ 0
  · have x0 : decide (1 ≤ k) = false := by simp; omega
    have y0 : decide (k ≤ 5) = true := by simp; omega
    have x1 : decide (10 ≤ k) = false := by simp; omega
    have y1 : decide (k ≤ 14) = true := by simp; omega
    have x2 : decide (20 ≤ k) = false := by simp; omega
    have y2 : decide (k ≤ 46) = true := by simp; omega
    go_enter Tryz.func29, Tryz.ntmps29
    go_wp2
    go_ret
    exact ⟨ret_int (clsN_0 (by omega) (by omega) (by omega)).symm, k0⟩
  by_cases h1 : k ≤ 5
  · have x0 : decide (1 ≤ k) = true := by simp; omega
    have y0 : decide (k ≤ 5) = true := by simp; omega
    have x1 : decide (10 ≤ k) = false := by simp; omega
    have y1 : decide (k ≤ 14) = true := by simp; omega
    have x2 : decide (20 ≤ k) = false := by simp; omega
    have y2 : decide (k ≤ 46) = true := by simp; omega
    go_enter Tryz.func29, Tryz.ntmps29
    go_wp2
    go_ret
    exact ⟨ret_int (clsN_1 (by omega) (by omega)).symm, k0⟩
  by_cases h2 : k ≤ 9
  · have x0 : decide (1 ≤ k) = true := by simp; omega
    have y0 : decide (k ≤ 5) = false := by simp; omega
    have x1 : decide (10 ≤ k) = false := by simp; omega
    have y1 : decide (k ≤ 14) = true := by simp; omega
    have x2 : decide (20 ≤ k) = false := by simp; omega
    have y2 : decide (k ≤ 46) = true := by simp; omega
    go_enter Tryz.func29, Tryz.ntmps29
    go_wp2
    go_ret
    exact ⟨ret_int (clsN_0 (by omega) (by omega) (by omega)).symm, k0⟩
  by_cases h3 : k ≤ 14
  · have x0 : decide (1 ≤ k) = true := by simp; omega
    have y0 : decide (k ≤ 5) = false := by simp; omega
    have x1 : decide (10 ≤ k) = true := by simp; omega
    have y1 : decide (k ≤ 14) = true := by simp; omega
    have x2 : decide (20 ≤ k) = false := by simp; omega
    have y2 : decide (k ≤ 46) = true := by simp; omega
    go_enter Tryz.func29, Tryz.ntmps29
    go_wp2
    go_ret
    exact ⟨ret_int (clsN_2 (by omega) (by omega)).symm, k0⟩
  by_cases h4 : k ≤ 19
  · have x0 : decide (1 ≤ k) = true := by simp; omega
    have y0 : decide (k ≤ 5) = false := by simp; omega
    have x1 : decide (10 ≤ k) = true := by simp; omega
    have y1 : decide (k ≤ 14) = false := by simp; omega
    have x2 : decide (20 ≤ k) = false := by simp; omega
    have y2 : decide (k ≤ 46) = true := by simp; omega
    go_enter Tryz.func29, Tryz.ntmps29
    go_wp2
    go_ret
    exact ⟨ret_int (clsN_0 (by omega) (by omega) (by omega)).symm, k0⟩
  by_cases h5 : k ≤ 46
  · have x0 : decide (1 ≤ k) = true := by simp; omega
    have y0 : decide (k ≤ 5) = false := by simp; omega
    have x1 : decide (10 ≤ k) = true := by simp; omega
    have y1 : decide (k ≤ 14) = false := by simp; omega
    have x2 : decide (20 ≤ k) = true := by simp; omega
    have y2 : decide (k ≤ 46) = true := by simp; omega
    go_enter Tryz.func29, Tryz.ntmps29
    go_wp2
    go_ret
    exact ⟨ret_int (clsN_3 (by omega) (by omega)).symm, k0⟩
  have x0 : decide (1 ≤ k) = true := by simp; omega
  have y0 : decide (k ≤ 5) = false := by simp; omega
  have x1 : decide (10 ≤ k) = true := by simp; omega
  have y1 : decide (k ≤ 14) = false := by simp; omega
  have x2 : decide (20 ≤ k) = true := by simp; omega
  have y2 : decide (k ≤ 46) = false := by simp; omega
  go_enter Tryz.func29, Tryz.ntmps29
  go_wp2
  go_ret
  exact ⟨ret_int (clsN_0 (by omega) (by omega) (by omega)).symm, k0⟩
set_option linter.unusedSimpArgs false in
set_option maxHeartbeats 4000000 in
theorem rsize_any (d : Nat) (x : Tr (d + 1)) (c0 c1 c2 c3 c4 c5 : Value) (w : World) (h : Tv w (d + 1) x [c0, c1, c2, c3, c4, c5]) :
    Calls Tryz.prog 30 #[.agg #[c0, c1, c2, c3, c4, c5]] w fun e w' => e = .returned (.tuple #[.int .i64 (szN (d + 1) x : Nat), .int .i64 (szD (d + 1) x : Nat)]) ∧ Below w.heap.size w w' := by
  obtain ⟨k, t, n, so, sn, sc, ao, an, ac, uo, un, uc, ev⟩ := h.form
  injection ev with ev0 ev
  injection ev with ev1 ev
  injection ev with ev2 ev
  injection ev with ev3 ev
  injection ev with ev4 ev
  injection ev with ev5 ev
  subst ev0 ev1 ev2 ev3 ev4 ev5
  have k0 := box_below w (.cells #[.int .i64 k, .string t, .int .i64 n, .slice so sn sc, .slice ao an ac, .slice uo un uc] 31)
  obtain ⟨q0, q1, q2, q3, q4, q5⟩ := box6 (allocNew w (.cells #[.int .i64 k, .string t, .int .i64 n, .slice so sn sc, .slice ao an ac, .slice uo un uc] 31))
  have hr := row_any d x _ _ _ _ _ _ w (w.alloc (.cells #[.int .i64 k, .string t, .int .i64 n, .slice so sn sc, .slice ao an ac, .slice uo un uc] 31)) h k0
  have hz := row_size d x
  cases ho : szO (d + 1) x
  · have e2 : szN (d + 1) x = 4097 := by unfold szN; rw [ho]; rfl
    have e3 : szD (d + 1) x = 257 := by unfold szD; rw [ho]; rfl
    rw [hz.2 ho] at hr
    dsimp only [RowP] at hr
    rw [e2, e3]
    clear e2 e3 ho hz h
    go_enter Tryz.func30, Tryz.ntmps30
    go_wp2_with (go_at_call 49; (with_reducible refine hr.mono ?_); rintro e w1 ⟨rfl, b1⟩)
    (try simp only [Exit.inBlock, Exit.then])
    refine bodyPost_ret (results_tmp2 rfl _ _ _) rfl ?_
    exact ⟨rfl, k0.trans (b1.mono k0.size)⟩
  · have e2 : szN (d + 1) x = nds (d + 1) x := by unfold szN; rw [ho]; rfl
    have e3 : szD (d + 1) x = dep (d + 1) x := by unfold szD; rw [ho]; rfl
    obtain ⟨m, em, hml⟩ := hz.1 ho
    obtain ⟨z, hzl, hzd, hpos⟩ := row_last em
    have hd := of_decide_eq_true (show decide (nds (d + 1) x ≤ 4096 ∧ dep (d + 1) x ≤ 256) = true from ho)
    rw [em] at hr
    dsimp only [RowP] at hr
    rw [e2, e3, ← hml, ← hzd]
    obtain ⟨p, hp⟩ : ∃ p, m.length = p + 1 := ⟨m.length - 1, by omega⟩
    have hp4 : p ≤ 4096 := by omega
    rw [hp, Nat.add_sub_cancel] at hzl
    have HP : Hid (m.length = p + 1) := hp
    have HZ : Hid (m[p]? = some z) := hzl
    rw [hp]
    rw [hp] at hr
    clear e2 e3 ho hz h hml em hzd hpos hd hp hzl
    have wp1 : IntKind.i64.wrap ((p : Int) + 1 - 1) = (p : Int) := by rw [wrT (by omega) (by omega)]; omega
    have wp2 : IntKind.i64.wrap ((p : Int)) = (p : Int) := wrT (by omega) (by omega)
    have bp : (p : Int) < (p : Int) + 1 := by omega
    go_enter Tryz.func30, Tryz.ntmps30
    go_wp2_with (go_at_call 49; (with_reducible refine hr.mono ?_); rintro e w1 ⟨o, c, vals, rfl, N⟩
                 obtain ⟨d0, d1, d2, d3, d4, d5, tz, p0, p1, p2, p3, p4, p5, p6, p7⟩ := N.nodes p z HZ.out
                 have ow := N.own
                 rw [HP.out] at ow
                 obtain ⟨G, rfl, hGB, hGV, hcell⟩ := own_cell8 ow (Nat.succ_pos _)
                 have e6 := (hcell (p * 8 + 6) (by omega)).trans p6
                 have bel := k0.trans (N.bel.mono k0.size)
                 clear N tz p0 p1 p2 p3 p4 p5 p6 p7 ow hcell)
    go_quiet (fail)
    go_wp2
    (try simp only [Exit.inBlock, Exit.then])
    refine bodyPost_ret (results_tmp2 rfl _ _ _) rfl ?_
    exact ⟨rfl, below_drewN bel _⟩
end Go.Proofs.YtiahilelcppfgaaGreat

namespace Go.Proofs.YtiahilelcppfgaaGreat

open Go.RowKit

set_option linter.unusedVariables false

/-- Two nodes, without what lies below. -/
def cmpZ (z y : Nz) : Bool := decide (z.x.nd.k = y.x.nd.k) && ((z.x.nd.t.toList == y.x.nd.t.toList) && (decide (z.x.nd.n = y.x.nd.n) && (decide (z.x.ks.length = y.x.ks.length) && eqA z.x.nd.sh z.x.nd.at' y.x.nd.sh y.x.nd.at')))
def alkZ (z y : Nz) : Bool := alkB (z.d + 1) z.x (y.d + 1) y.x
theorem cmpZ_len {z y : Nz} (h : cmpZ z y = true) : (kidsZ z).length = (kidsZ y).length := by
  unfold cmpZ at h
  simp only [Bool.and_eq_true, decide_eq_true_eq] at h
  rw [kidsZ_len, kidsZ_len]; exact h.2.2.2.1
theorem kids_at (z : Nz) (j : Nat) (y : Nz) (h : (kidsZ z)[j]? = some y) : ∃ t, z.x.ks[j]? = some t ∧ ∀ (e : Nat) (s : Tr e), alkB z.d t e s = alkB (y.d + 1) y.x e s ∧ alkB e s z.d t = alkB e s (y.d + 1) y.x := by
  match z, h with
  | ⟨0, x, _, _⟩, h => simp [kidsZ] at h
  | ⟨d + 1, x, dp, b⟩, h =>
    have h' : (x.ks.map fun y => (⟨d, y, dp + 1, if x.nd.k = 23 then decide (x.nd.n = 1) else b⟩ : Nz))[j]? = some y := h
    rw [List.getElem?_map] at h'
    cases ht : x.ks[j]? with
    | none => rw [ht] at h'; cases h'
    | some t =>
      rw [ht] at h'
      injection h' with h'
      subst h'
      exact ⟨t, by first | exact ht | rfl, fun e s => ⟨rfl, rfl⟩⟩
theorem alkZ_iff (z y : Nz) : alkZ z y = true ↔ (cmpZ z y = true ∧ ∀ (j : Nat) (a b : Nz), (kidsZ z)[j]? = some a → (kidsZ y)[j]? = some b → alkZ a b = true) := by
  have e : alkZ z y = (decide (z.x.nd.k = y.x.nd.k) && ((z.x.nd.t.toList == y.x.nd.t.toList) && (decide (z.x.nd.n = y.x.nd.n) && (eqA z.x.nd.sh z.x.nd.at' y.x.nd.sh y.x.nd.at' && (decide (z.x.ks.length = y.x.ks.length) && pall (fun i => (z.x.ks[i]?).elim true fun a => (y.x.ks[i]?).elim true fun b => alkB z.d a y.d b) z.x.ks.length))))) := by
    unfold alkZ; rw [alkB]
  rw [e]
  unfold cmpZ
  simp only [Bool.and_eq_true, decide_eq_true_eq, pall_iff]
  have key : ∀ (j : Nat) (a b : Nz), (kidsZ z)[j]? = some a → (kidsZ y)[j]? = some b → ((z.x.ks[j]?).elim true fun a => (y.x.ks[j]?).elim true fun b => alkB z.d a y.d b) = alkZ a b := fun j a b ha hb => by
    obtain ⟨t, ht, q1⟩ := kids_at z j a ha
    obtain ⟨s, hs, q2⟩ := kids_at y j b hb
    rw [ht, hs]
    show alkB z.d t y.d s = alkB (a.d + 1) a.x (b.d + 1) b.x
    rw [(q1 y.d s).1, (q2 (a.d + 1) a.x).2]
  constructor
  · rintro ⟨h1, h2, h3, h4, h5, h6⟩
    refine ⟨⟨h1, h2, h3, h5, h4⟩, fun j a b ha hb => ?_⟩
    rw [← key j a b ha hb]
    have hj : j < z.x.ks.length := by rw [← kidsZ_len]; exact (List.getElem?_eq_some_iff.1 ha).1
    exact h6 j hj
  · rintro ⟨⟨h1, h2, h3, h5, h4⟩, h6⟩
    refine ⟨h1, h2, h3, h4, h5, fun j hj => ?_⟩
    have h1' : j < (kidsZ z).length := by rw [kidsZ_len]; exact hj
    have h2' : j < (kidsZ y).length := by rw [kidsZ_len, ← h5]; exact hj
    rw [key j _ _ (List.getElem?_eq_getElem h1') (List.getElem?_eq_getElem h2')]
    exact h6 j _ _ (List.getElem?_eq_getElem h1') (List.getElem?_eq_getElem h2')
theorem row_pre {f i : Nat} {l m : List Nz} (h1 : l.length ≤ 4096) (h2 : 4097 ≤ f + i) (h3 : i ≤ l.length) (h : rowF f i l = some m) : l <+: m := (row_all (A := fun _ => True) (P := fun _ => True) (by simp) f i l m h1 h2 h3 h).2
theorem pre_at {l m : List Nz} (h : l <+: m) {i : Nat} {z : Nz} (hz : l[i]? = some z) : m[i]? = some z := by
  obtain ⟨t, rfl⟩ := h
  rw [List.getElem?_append_left (List.getElem?_eq_some_iff.1 hz).1]; exact hz
theorem row_same : ∀ (f i : Nat) (l m l' m' : List Nz), l.length = m.length → l.length ≤ 4096 → 4097 ≤ f + i → i ≤ l.length → rowF f i l = some l' → rowF f i m = some m' → ((l'.length = m'.length ∧ ∀ (j : Nat) (z y : Nz), i ≤ j → l'[j]? = some z → m'[j]? = some y → cmpZ z y = true) ↔ ∀ (j : Nat) (z y : Nz), i ≤ j → l[j]? = some z → m[j]? = some y → alkZ z y = true)
  | 0, i, l, m, l', m', h1, h2, h3, h4, _, _ => by omega
  | f + 1, i, l, m, l', m', h1, h2, h3, h4, hl, hm => by
    cases hz : l[i]? with
    | none =>
      have hle := List.getElem?_eq_none_iff.1 hz
      rw [rowF_none hle] at hl
      rw [rowF_none (by omega)] at hm
      injection hl with hl
      injection hm with hm
      subst hl hm
      constructor
      · intro _ j z y hj ha _
        rw [List.getElem?_eq_none (by omega)] at ha; cases ha
      · intro _
        refine ⟨h1, fun j z y hj ha _ => ?_⟩
        rw [List.getElem?_eq_none (by omega)] at ha; cases ha
    | some z =>
      have hi : i < l.length := (List.getElem?_eq_some_iff.1 hz).1
      obtain ⟨y, hy⟩ : ∃ y, m[i]? = some y := ⟨m[i]'(by omega), by simp⟩
      have hl0 := hl
      have hm0 := hm
      rw [rowF_some hz] at hl
      rw [rowF_some hy] at hm
      split at hl
      · cases hl
      split at hm
      · cases hm
      have pl := row_pre h2 h3 h4 hl0
      have pm := row_pre (by omega) h3 (by omega) hm0
      have hz' := pre_at pl hz
      have hy' := pre_at pm hy
      cases hc : cmpZ z y
      · constructor
        · rintro ⟨_, q⟩
          rw [q i z y (Nat.le_refl _) hz' hy'] at hc; cases hc
        · intro q
          have := ((alkZ_iff z y).1 (q i z y (Nat.le_refl _) hz hy)).1
          rw [this] at hc; cases hc
      · have hkl := cmpZ_len hc
        have ih := row_same f (i + 1) (l ++ kidsZ z) (m ++ kidsZ y) l' m' (by rw [List.length_append, List.length_append]; omega) (by rw [List.length_append, kidsZ_len]; omega) (by omega) (by rw [List.length_append]; omega) hl hm
        constructor
        · rintro ⟨q0, q⟩
          have r := ih.1 ⟨q0, fun j a b hj => q j a b (by omega)⟩
          intro j a b hj ha hb
          by_cases hij : j = i
          · subst hij
            rw [hz] at ha
            rw [hy] at hb
            injection ha with ha
            injection hb with hb
            subst ha hb
            refine (alkZ_iff z y).2 ⟨hc, fun k a b ha hb => ?_⟩
            refine r (l.length + k) a b (by omega) ?_ ?_
            · rw [List.getElem?_append_right (by omega), Nat.add_sub_cancel_left]; exact ha
            · rw [List.getElem?_append_right (by omega), ← h1, Nat.add_sub_cancel_left]; exact hb
          · refine r j a b (by omega) ?_ ?_
            · rw [List.getElem?_append_left (List.getElem?_eq_some_iff.1 ha).1]; exact ha
            · rw [List.getElem?_append_left (List.getElem?_eq_some_iff.1 hb).1]; exact hb
        · intro q
          have hzy := (alkZ_iff z y).1 (q i z y (Nat.le_refl _) hz hy)
          have r := ih.2 (fun j a b hj ha hb => by
            by_cases hjl : j < l.length
            · rw [List.getElem?_append_left hjl] at ha
              rw [List.getElem?_append_left (by omega)] at hb
              exact q j a b (by omega) ha hb
            · rw [List.getElem?_append_right (by omega)] at ha
              rw [List.getElem?_append_right (by omega), ← h1] at hb
              exact hzy.2 _ a b ha hb)
          refine ⟨r.1, fun j a b hj ha hb => ?_⟩
          by_cases hij : j = i
          · subst hij
            rw [hz'] at ha
            rw [hy'] at hb
            injection ha with ha
            injection hb with hb
            subst ha hb
            exact hc
          · exact r.2 j a b (by omega) ha hb
end Go.Proofs.YtiahilelcppfgaaGreat

namespace Go.Proofs.YtiahilelcppfgaaGreat

open Go.RowKit

set_option linter.unusedVariables false

/-- Row by row: the first way two rows differ. -/
theorem same_end {d e : Nat} {x : Tr (d + 1)} {y : Tr (e + 1)} {l m : List Nz} (hl : rowT d x = some l) (hm : rowT e y = some m) : (l.length = m.length ∧ ∀ (j : Nat) (z y : Nz), l[j]? = some z → m[j]? = some y → cmpZ z y = true) ↔ alkB (d + 1) x (e + 1) y = true := by
  have q := row_same 4097 0 [⟨d, x, 1, false⟩] [⟨e, y, 1, false⟩] l m rfl (by simp) (by omega) (by simp) hl hm
  constructor
  · rintro ⟨h1, h2⟩
    exact q.1 ⟨h1, fun j z y _ => h2 j z y⟩ 0 _ _ (Nat.le_refl _) rfl rfl
  · intro h
    have r := q.2 (fun j z y' _ hz hy => by
      match j, hz, hy with
      | 0, hz, hy => cases hz; cases hy; exact h
      | j + 1, hz, _ => cases hz)
    exact ⟨r.1, fun j z y hz hy => r.2 j z y (Nat.zero_le _) hz hy⟩
theorem zcell {w0 w V : World} {o : Option Addr} {c : Nat} {l : List Nz} {vals : List Value} (N : Rn w0 w V o c l vals) {i : Nat} {z : Nz} (hz : l[i]? = some z) : ∃ G c0 c1 c2 c3 c4 c5, o = some ⟨G, 0, none⟩ ∧ w.heap.size ≤ G ∧ G < V.heap.size ∧ Tv w0 (z.d + 1) z.x [c0, c1, c2, c3, c4, c5] ∧ V.cell? ⟨G, i * 8, none⟩ = some c0 ∧ V.cell? ⟨G, i * 8 + 1, none⟩ = some c1 ∧ V.cell? ⟨G, i * 8 + 2, none⟩ = some c2 ∧ V.cell? ⟨G, i * 8 + 3, none⟩ = some c3 ∧ V.cell? ⟨G, i * 8 + 4, none⟩ = some c4 ∧ V.cell? ⟨G, i * 8 + 5, none⟩ = some c5 ∧ V.cell? ⟨G, i * 8 + 6, none⟩ = some (.int .i64 (z.dp : Nat)) ∧ V.cell? ⟨G, i * 8 + 7, none⟩ = some (.bool z.b) := by
  have hi : i < l.length := (List.getElem?_eq_some_iff.1 hz).1
  obtain ⟨c0, c1, c2, c3, c4, c5, tz, p0, p1, p2, p3, p4, p5, p6, p7⟩ := N.nodes i z hz
  obtain ⟨G, e, hB, hG, hc⟩ := own_cell8 N.own (by omega)
  exact ⟨G, c0, c1, c2, c3, c4, c5, e, hB, hG, tz, (hc _ (by omega)).trans p0, (hc _ (by omega)).trans p1, (hc _ (by omega)).trans p2, (hc _ (by omega)).trans p3, (hc _ (by omega)).trans p4, (hc _ (by omega)).trans p5, (hc _ (by omega)).trans p6, (hc _ (by omega)).trans p7⟩
end Go.Proofs.YtiahilelcppfgaaGreat
