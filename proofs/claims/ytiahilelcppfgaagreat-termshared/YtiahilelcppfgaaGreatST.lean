
/- The document's May: each node of the row. -/

import Derived.Test.YtiahilelcppfgaaGreatSS

import Derived.Test.YtiahilelcppfgaaGreatSI

import Derived.Test.YtiahilelcppfgaaGreatTP

namespace Go.Proofs.YtiahilelcppfgaaGreat

open Go.RowKit

set_option linter.unusedVariables false

/-- A node's own part of what fits. -/
def rtZ (z : Nz) : Bool := rtB z.x.nd.k z.x.nd.n z.x.nd.t z.b z.x.nd.sh z.x.nd.at' z.x.ks.length (kin z.d z.x.ks)
theorem bare_num {k n : Int} (b : Bool) (h : numB k n = true) : (if k = 23 then decide (n = 2) else !b) = !(if k = 23 then decide (n = 1) else b) := by
  unfold numB at h
  by_cases hk : k = 23
  · rw [if_pos hk] at h
    rw [if_pos hk, if_pos hk]
    by_cases h1 : n = 1
    · subst h1; rfl
    · have h2 : n = 2 := by simpa [h1] using h
      subst h2; rfl
  · rw [if_neg hk, if_neg hk]
theorem fit_iff : ∀ z : Nz, fitB (z.d + 1) z.x (!z.b) = true ↔ (rtZ z = true ∧ ∀ y ∈ kidsZ z, fitB (y.d + 1) y.x (!y.b) = true)
  | ⟨0, x, dp, b⟩ => by
    have hk := ks_zero x
    simp only [fitB, rtZ, rtB, kidsZ, hk, List.length_nil, pall, Bool.and_true, Bool.and_eq_true, List.not_mem_nil, false_implies, implies_true, and_true]
    constructor
    · rintro ⟨⟨h1, h2, h3, h4⟩, h5⟩; exact ⟨h4, ⟨h1, h5⟩, h3, h2⟩
    · rintro ⟨h4, ⟨h1, h5⟩, h3, h2⟩; exact ⟨⟨h1, h2, h3, h4⟩, h5⟩
  | ⟨d + 1, x, dp, b⟩ => by
    have key : numB x.nd.k x.nd.n = true → ((pall (fun i => (x.ks[i]?).elim true (fun y => fitB (d + 1) y (if x.nd.k = 23 then decide (x.nd.n = 2) else !b))) x.ks.length = true) ↔ ∀ y ∈ kidsZ ⟨d + 1, x, dp, b⟩, fitB (y.d + 1) y.x (!y.b) = true) := fun hn => by
      rw [pall_iff, bare_num b hn]
      constructor
      · intro h y hy
        obtain ⟨t, ht, rfl⟩ := List.mem_map.1 hy
        obtain ⟨i, hi, e⟩ := List.getElem_of_mem ht
        have := h i hi
        rw [List.getElem?_eq_getElem hi, e] at this
        exact this
      · intro h i hi
        rw [List.getElem?_eq_getElem hi]
        exact h ⟨d, x.ks[i], dp + 1, _⟩ (List.mem_map.2 ⟨_, List.getElem_mem hi, rfl⟩)
    constructor
    · intro h
      have h' : ((txB x.nd.k x.nd.t && (numB x.nd.k x.nd.n && (arrB x.nd.k x.nd.sh x.nd.at' && kidB x.nd.k x.ks.length (kin (d + 1) x.ks)))) && (((!b) || !spk x.nd.k x.nd.t) && pall (fun i => (x.ks[i]?).elim true (fun y => fitB (d + 1) y (if x.nd.k = 23 then decide (x.nd.n = 2) else !b))) x.ks.length)) = true := h
      simp only [Bool.and_eq_true] at h'
      obtain ⟨⟨h1, h2, h3, h4⟩, h5, h6⟩ := h'
      exact ⟨by simp only [rtZ, rtB, Bool.and_eq_true]; exact ⟨h4, ⟨h1, h5⟩, h3, h2⟩, (key h2).1 h6⟩
    · rintro ⟨h, h6⟩
      simp only [rtZ, rtB, Bool.and_eq_true] at h
      obtain ⟨h4, ⟨h1, h5⟩, h3, h2⟩ := h
      have h7 := (key h2).2 h6
      show ((txB x.nd.k x.nd.t && (numB x.nd.k x.nd.n && (arrB x.nd.k x.nd.sh x.nd.at' && kidB x.nd.k x.ks.length (kin (d + 1) x.ks)))) && (((!b) || !spk x.nd.k x.nd.t) && pall (fun i => (x.ks[i]?).elim true (fun y => fitB (d + 1) y (if x.nd.k = 23 then decide (x.nd.n = 2) else !b))) x.ks.length)) = true
      simp only [Bool.and_eq_true]
      exact ⟨⟨h1, h2, h3, h4⟩, h5, h7⟩
/-- All nodes in the row are as they should be just where the term fits. -/
theorem fit_row {d : Nat} {x : Tr (d + 1)} {m : List Nz} (h : rowT d x = some m) : fitB (d + 1) x true = true ↔ ∀ z ∈ m, rtZ z = true := by
  have q := (row_all (A := fun z => fitB (z.d + 1) z.x (!z.b) = true) (P := fun z => rtZ z = true) fit_iff 4097 0 [⟨d, x, 1, false⟩] m (by simp) (by omega) (by simp) h).1
  simpa using q
/-- A node in the row, looked at alone. -/
theorem rright_node (z : Nz) (c0 c1 c2 c3 c4 c5 : Value) (dp : Int) (w0 w : World) (h : Tv w0 (z.d + 1) z.x [c0, c1, c2, c3, c4, c5]) (hw : Below w0.heap.size w0 w) :
    Calls Tryz.prog 50 #[.agg #[c0, c1, c2, c3, c4, c5, .int .i64 dp, .bool z.b]] w fun e w' => e = .returned (.bool (rtZ z)) ∧ Below w.heap.size w w' := by
  obtain ⟨so, sn, sc, ao, an, ac, ko, kc, hv, rs, _, ra, _, kq, _⟩ := h.val
  injection hv with ev0 ev
  injection ev with ev1 ev
  injection ev with ev2 ev
  injection ev with ev3 ev
  injection ev with ev4 ev
  injection ev with ev5 ev
  subst ev0 ev1 ev2 ev3 ev4 ev5
  exact rright_flat _ _ dp _ z.b so ao ko sn sc an ac _ kc _ _ _ w h.tb (rs.below hw (Nat.le_refl _)) (ra.below hw (Nat.le_refl _)) (Kf.below (Kq.kf kq) hw (Nat.le_refl _))
theorem mayT_le {d : Nat} {x : Tr d} {c : Int} (h : c < 1 ∨ 3 < c) : mayT d x c = 1 := by unfold mayT; rw [if_pos (by omega)]
theorem mayT_no {d : Nat} {x : Tr d} {c : Int} (h : ¬ (c < 1 ∨ 3 < c)) (hs : szO d x = false) : mayT d x c = 2 := by unfold mayT; rw [if_neg (by omega), if_pos hs]
theorem mayT_bad {d : Nat} {x : Tr d} {c : Int} (h : ¬ (c < 1 ∨ 3 < c)) (hs : szO d x = true) (hf : fitB d x true = false) : mayT d x c = 33 := by unfold mayT; rw [if_neg (by omega), if_neg (by rw [hs]; decide), if_pos hf]
theorem mayT_ok {d : Nat} {x : Tr d} {c : Int} (h : ¬ (c < 1 ∨ 3 < c)) (hs : szO d x = true) (hf : fitB d x true = true) : mayT d x c = if clsN (root d x).k ≠ c then 5 else 0 := by unfold mayT; rw [if_neg (by omega), if_neg (by rw [hs]; decide), if_neg (by rw [hf]; decide)]
set_option linter.unusedSimpArgs false in
set_option maxRecDepth 100000 in
set_option maxHeartbeats 4000000 in
theorem rmay_any (d : Nat) (x : Tr (d + 1)) (c0 c1 c2 c3 c4 c5 : Value) (c : Int) (w : World) (h : Tv w (d + 1) x [c0, c1, c2, c3, c4, c5]) :
    Calls Tryz.prog 28 #[.agg #[c0, c1, c2, c3, c4, c5], .int .i64 c] w fun e w' => e = .returned (.int .i64 (mayT (d + 1) x c)) ∧ Below w.heap.size w w' := by
  have hk : ∃ k t n so sn sc ao an ac uo un uc, [c0, c1, c2, c3, c4, c5] = [.int .i64 k, .string t, .int .i64 n, .slice so sn sc, .slice ao an ac, .slice uo un uc] ∧ k = x.nd.k := by
    obtain ⟨so, sn, sc, ao, an, ac, ko, kc, hv, _⟩ := h.val
    exact ⟨_, _, _, so, sn, sc, ao, an, ac, ko, _, kc, hv, rfl⟩
  obtain ⟨k, t, n, so, sn, sc, ao, an, ac, uo, un, uc, ev, hkx⟩ := hk
  injection ev with ev0 ev
  injection ev with ev1 ev
  injection ev with ev2 ev
  injection ev with ev3 ev
  injection ev with ev4 ev
  injection ev with ev5 ev
  subst ev0 ev1 ev2 ev3 ev4 ev5
  have k0 := box_below w (.cells #[.int .i64 k, .string t, .int .i64 n, .slice so sn sc, .slice ao an ac, .slice uo un uc] 31)
  have box := allocNew w (.cells #[.int .i64 k, .string t, .int .i64 n, .slice so sn sc, .slice ao an ac, .slice uo un uc] 31)
  obtain ⟨q0, q1, q2, q3, q4, q5⟩ := box6 box
  by_cases hc : c < 1 ∨ 3 < c
  · rw [mayT_le hc]
    rcases hc with hc | hc
    · have e1 : decide (c < 1) = true := by simp [hc]
      clear hkx h hc
      go_enter Tryz.func28, Tryz.ntmps28
      go_wp2
      go_ret
      exact ⟨rfl, k0⟩
    · have e1 : decide (c < 1) = false := by simp; omega
      have e2 : decide (3 < c) = true := by simp [hc]
      clear hkx h hc
      go_enter Tryz.func28, Tryz.ntmps28
      go_wp2
      go_ret
      exact ⟨rfl, k0⟩
  have e1 : decide (c < 1) = false := by simp; omega
  have e2 : decide (3 < c) = false := by simp; omega
  have hr := row_any d x _ _ _ _ _ _ w (w.alloc (.cells #[.int .i64 k, .string t, .int .i64 n, .slice so sn sc, .slice ao an ac, .slice uo un uc] 31)) h k0
  have hz := row_size d x
  cases ho : szO (d + 1) x
  · rw [mayT_no hc ho]
    rw [hz.2 ho] at hr
    dsimp only [RowP] at hr
    clear ho hz h hc hkx
    go_enter Tryz.func28, Tryz.ntmps28
    go_wp2_with (go_at_call 49; (with_reducible refine hr.mono ?_); rintro e w1 ⟨rfl, b1⟩)
    go_ret
    exact ⟨rfl, k0.trans (b1.mono k0.size)⟩
  obtain ⟨m, em, hml⟩ := hz.1 ho
  have HM4 : Hid (m.length ≤ 4096) := by
    have hd := of_decide_eq_true (show decide (nds (d + 1) x ≤ 4096 ∧ dep (d + 1) x ≤ 256) = true from ho)
    show _ ≤ _
    omega
  have hfr := fit_row em
  rw [em] at hr
  dsimp only [RowP] at hr
  have HB : Hid (∀ z ∈ m, rtZ z = false → mayT (d + 1) x c = 33) := fun z hz hf => mayT_bad hc ho (by
    cases hF : fitB (d + 1) x true
    · rfl
    · have := hfr.1 hF z hz
      rw [this] at hf; cases hf)
  have HY : Hid ((∀ z ∈ m, rtZ z = true) → mayT (d + 1) x c = if clsN k ≠ c then 5 else 0) := fun hf => by
    rw [mayT_ok hc ho (hfr.2 hf), hkx]; rfl
  generalize mayT (d + 1) x c = R at *
  clear hc ho hz hml em hfr hkx
  have hcl := fun W => rclass_any k n t (.slice so sn sc) (.slice ao an ac) (.slice uo un uc) W
  have HW : Hid (Tv w (d + 1) x [.int .i64 k, .string t, .int .i64 n, .slice so sn sc, .slice ao an ac, .slice uo un uc]) := h
  clear h
  have hmL : m.length ≤ 4096 := HM4.out
  obtain ⟨L, hL⟩ : ∃ L, L = m.length := ⟨_, rfl⟩
  have HL : Hid (L = m.length) := hL
  rw [← hL] at hr hmL
  clear hL
  go_enter Tryz.func28, Tryz.ntmps28
  go_wp2_with (go_at_call 49; (with_reducible refine hr.mono ?_); rintro e w1 ⟨o, cc, vals, rfl, N⟩
               have B0 := k0.trans (N.bel.mono k0.size)
               have bx := (N.bel.block w.heap.size (by simp)).trans box
               have HN : Hid (_) := N
               clear N hr)
  go_loopw [6, 7] (fun ov iv V => ov = .bool true ∧ ∃ i : Nat, i ≤ L ∧ iv = .int .i64 (i : Nat) ∧ Hid (∀ j, j < i → ∀ z, m[j]? = some z → rtZ z = true) ∧ Below w1.heap.size w1 V) (fun _ iv _ => L - (intOf iv).toNat)
  case atStart => exact ⟨rfl, 0, Nat.zero_le _, rfl, fun j hj => absurd hj (Nat.not_lt_zero _), Below.refl _ _⟩
  case round =>
    obtain ⟨rfl, i, hi, rfl, HJ, B⟩ := hrel
    have BW := B0.trans (B.mono B0.size)
    obtain ⟨q0, q1, q2, q3, q4, q5⟩ := box6 ((B.block w.heap.size (Array.getElem?_eq_some_iff.1 bx).1).trans bx)
    by_cases hlt : i < L
    · have t3 : decide ((i : Int) < (L : Int)) = true := by simp; omega
      have bi : (i : Int) < (L : Int) := by omega
      obtain ⟨z, hz⟩ : ∃ z, m[i]? = some z := ⟨m[i]'(by rw [← HL.out]; omega), by simp⟩
      obtain ⟨G, d0, d1, d2, d3, d4, d5, rfl, hGB, hGV, tz, p0, p1, p2, p3, p4, p5, p6, p7⟩ := zcell HN.out hz
      obtain ⟨k3, t3', n3, so3, sn3, sc3, ao3, an3, ac3, uo3, un3, uc3, ev⟩ := tz.form
      injection ev with ev0 ev
      injection ev with ev1 ev
      injection ev with ev2 ev
      injection ev with ev3 ev
      injection ev with ev4 ev
      injection ev with ev5 ev
      subst ev0 ev1 ev2 ev3 ev4 ev5
      have hrt := fun V (hV : Below w.heap.size w V) => rright_node z _ _ _ _ _ _ (z.dp : Nat) w V tz hV
      have HZ : Hid (m[i]? = some z) := hz
      replace p0 := (B.cell (p := ⟨G, i * 8, none⟩) hGV).trans p0
      replace p1 := (B.cell (p := ⟨G, i * 8 + 1, none⟩) hGV).trans p1
      replace p2 := (B.cell (p := ⟨G, i * 8 + 2, none⟩) hGV).trans p2
      replace p3 := (B.cell (p := ⟨G, i * 8 + 3, none⟩) hGV).trans p3
      replace p4 := (B.cell (p := ⟨G, i * 8 + 4, none⟩) hGV).trans p4
      replace p5 := (B.cell (p := ⟨G, i * 8 + 5, none⟩) hGV).trans p5
      replace p6 := (B.cell (p := ⟨G, i * 8 + 6, none⟩) hGV).trans p6
      replace p7 := (B.cell (p := ⟨G, i * 8 + 7, none⟩) hGV).trans p7
      obtain ⟨rz, hrz⟩ : ∃ rz, rz = rtZ z := ⟨_, rfl⟩
      rw [← hrz] at hrt
      have HRZ : Hid (rz = rtZ z) := hrz
      clear hz hrz tz
      generalize z.dp = dp at *
      generalize z.b = zb at *
      cases rz
      · have HE : Hid (R = 33) := HB.out z (List.mem_of_getElem? HZ.out) HRZ.out.symm
        go_wp2_with (go_at_call 50; (with_reducible refine (hrt _ BW).mono ?_); rintro e w5 ⟨rfl, b5⟩)
        go_ret
        exact ⟨ret_int HE.out.symm, BW.trans (b5.mono BW.size)⟩
      · go_wp2_with (go_at_call 50; (with_reducible refine (hrt _ BW).mono ?_); rintro e w5 ⟨rfl, b5⟩)
        go_roundw
        case rel => exact ⟨by first | trivial | rfl, i + 1, by omega, by go_num, fun j hj z' hz' => by
          by_cases e : j = i
          · subst e
            rw [HZ.out] at hz'
            rw [← Option.some.inj hz']; exact HRZ.out.symm
          · exact HJ.out j (by omega) z' hz', B.trans (b5.mono B.size)⟩
        case measure => simp [intOf] <;> omega
    · obtain rfl : i = L := by omega
      have t3 : decide ((i : Int) < (i : Int)) = false := by simp
      have HE : Hid (R = if clsN k ≠ c then 5 else 0) := HY.out (fun z hz => by
        obtain ⟨j, hj, e⟩ := List.getElem_of_mem hz
        exact HJ.out j (by rw [HL.out]; exact hj) z (by rw [← e]; exact List.getElem?_eq_getElem hj))
      generalize clsN k = C at *
      by_cases hC : C = c
      · have f1 : (C != c) = false := by simp [hC]
        have HF : Hid (R = 0) := by show _ = _; rw [HE.out, if_neg (by simp [hC])]
        clear HE hC
        go_wp2_with (go_at_call 29; (with_reducible refine (hcl _).mono ?_); rintro e w5 ⟨rfl, b5⟩)
        go_ret
        exact ⟨ret_int HF.out.symm, BW.trans (b5.mono BW.size)⟩
      · have f1 : (C != c) = true := by simp [hC]
        have HF : Hid (R = 5) := by show _ = _; rw [HE.out, if_pos hC]
        clear HE hC
        go_wp2_with (go_at_call 29; (with_reducible refine (hcl _).mono ?_); rintro e w5 ⟨rfl, b5⟩)
        go_ret
        exact ⟨ret_int HF.out.symm, BW.trans (b5.mono BW.size)⟩
end Go.Proofs.YtiahilelcppfgaaGreat
