
/- TermNamed, the walk. -/

import Derived.Test.YtiahilelcppfgaaGreatNE

namespace Go.Proofs.YtiahilelcppfgaaGreat

open Go.RowKit

set_option linter.unusedVariables false

theorem rise_at {l : List (List UInt8)} (h : l.Pairwise (· < ·)) (i : Nat) (hi : i + 1 < l.length) : Op.bytesLess (⟨(l.getD i []).toArray⟩ : ByteArray).toList (⟨(l.getD (i + 1) []).toArray⟩ : ByteArray).toList = true := by
  rw [ByteArray.toList_mk, ByteArray.toList_mk]
  refine bless ?_
  have := List.pairwise_iff_getElem.1 h i (i + 1) (by omega) hi (Nat.lt_succ_self _)
  simpa [List.getD, hi, (show i < l.length by omega)] using this
theorem any_take (l : List (List UInt8)) (b : List UInt8) (j : Nat) (h : j < l.length) : (l.take (j + 1)).any (fun x => decide (x = b)) = ((l.take j).any (fun x => decide (x = b)) || decide (l.getD j [] = b)) := by
  rw [List.take_succ_eq_append_getElem h, List.any_append]
  have e : l[j] = l.getD j [] := by simp [List.getD, h]
  simp [List.getD, h]
set_option linter.unusedSimpArgs false in
set_option maxRecDepth 100000 in
set_option maxHeartbeats 8000000 in
theorem named_one (d : Nat) (x : Tr (d + 1)) (k n : Int) (t nm : ByteArray) (so ao ko : Option Addr) (sn sc an ac kn kc : Nat) (w : World) (h : Tv w (d + 1) x [.int .i64 k, .string t, .int .i64 n, .slice so sn sc, .slice ao an ac, .slice ko kn kc]) (hnm : nm.size ≤ 140737488355328) :
    Calls Tryz.prog 7 #[.agg #[.int .i64 k, .string t, .int .i64 n, .slice so sn sc, .slice ao an ac, .slice ko kn kc], .string nm] w fun e w' => e = .returned (.bool true) ∧ Below w.heap.size w w' := by
  have k0 := box_below w (.cells #[.int .i64 k, .string t, .int .i64 n, .slice so sn sc, .slice ao an ac, .slice ko kn kc] 31)
  have r0 := allocNew w (.cells #[.int .i64 k, .string t, .int .i64 n, .slice so sn sc, .slice ao an ac, .slice ko kn kc] 31)
  have hbg := begun13_any (w.alloc (.cells #[.int .i64 k, .string t, .int .i64 n, .slice so sn sc, .slice ao an ac, .slice ko kn kc] 31))
  have hna := fun V (b : Below w.heap.size w V) => names_any (d + 1) x _ _ _ _ _ _ V (Tv.below b (Nat.le_refl _) _ _ _ h)
  have hsz := fun V (b : Below w.heap.size w V) => tsize_any (d + 1) x _ _ _ _ _ _ V (Tv.below b (Nat.le_refl _) _ _ _ h)
  unfold NmP at hna
  cases ho : szO (d + 1) x
  · have e1 : nmT (d + 1) x = [] := by unfold nmT; rw [ho]; rfl
    have e2 : szN (d + 1) x = 4097 := by unfold szN; rw [ho]; rfl
    have e3 : szD (d + 1) x = 257 := by unfold szD; rw [ho]; rfl
    rw [e1] at hna
    rw [e2, e3] at hsz
    simp only [List.length_nil] at hna
    clear e1 e2 e3 ho h
    go_enter Tryz.func7, Tryz.ntmps7
    go_wp2_with (first
      | (go_at_call 9; (with_reducible refine hbg.mono ?_); rintro e w1 ⟨rfl, b1⟩; have B1 := k0.trans (b1.mono k0.size); have R1 := (b1.block w.heap.size (by simp)).trans r0; obtain ⟨q0, q1, q2, q3, q4, q5⟩ := box6 R1)
      | (go_at_call 17; (with_reducible refine (hna _ B1).mono ?_); rintro e w2 ⟨o, c, rfl, b2, _⟩; have B2 := B1.trans (b2.mono B1.size); have R2 := (b2.block w.heap.size (Array.getElem?_eq_some_iff.1 R1).1).trans R1; obtain ⟨p0, p1, p2, p3, p4, p5⟩ := box6 R2)
      | (go_at_call 13; (with_reducible refine (hsz _ B2).mono ?_); rintro e w3 ⟨rfl, b3⟩))
    go_ret
    exact ⟨rfl, B2.trans (b3.mono B2.size)⟩
  have e1 : nmT (d + 1) x = nmL (gat (d + 1) x) := by unfold nmT; rw [ho]; rfl
  have e2 : szN (d + 1) x = nds (d + 1) x := by unfold szN; rw [ho]; rfl
  have e3 : szD (d + 1) x = dep (d + 1) x := by unfold szD; rw [ho]; rfl
  have hd := of_decide_eq_true (show decide (nds (d + 1) x ≤ 4096 ∧ dep (d + 1) x ≤ 256) = true from ho)
  rw [e1] at hna
  rw [e2, e3] at hsz
  have hgl := gat_len (d + 1) x
  have hmn := fun V g c0 c1 c2 c3 c4 c5 (hv : Tv V (d + 1) x [c0, c1, c2, c3, c4, c5]) hr (hs : szO (d + 2) (monT d x nm) = true) => names_any (d + 2) (monT d x nm) _ _ _ _ _ _ V (tv_mon (g := g) (W := w) hv hnm hr)
  unfold NmP at hmn
  have emn : szO (d + 2) (monT d x nm) = true → nmT (d + 2) (monT d x nm) = nmL (gat (d + 1) x ++ [nm]) := fun e => by unfold nmT; rw [e, gat_mon]; rfl
  have hso : nds (d + 1) x ≤ 4000 → dep (d + 1) x < 256 → szO (d + 2) (monT d x nm) = true := fun h1 h2 => by unfold szO; rw [nds_mon, dep_mon]; simp; omega
  obtain ⟨N, hN⟩ : ∃ N, N = nds (d + 1) x := ⟨_, rfl⟩
  obtain ⟨D, hD⟩ : ∃ D, D = dep (d + 1) x := ⟨_, rfl⟩
  obtain ⟨gl, hg⟩ : ∃ gl, gl = gat (d + 1) x := ⟨_, rfl⟩
  rw [← hN] at hsz hd hgl hso
  rw [← hD] at hsz hd hso
  rw [← hg] at hna hgl emn
  have hLl : (nmL gl).length ≤ 4096 := by
    have h1 : (nmL gl).length ≤ ((bys gl).mergeSort fun x y => decide (x ≤ y)).length := compact_le _
    rw [List.length_mergeSort] at h1
    have h2 : (bys gl).length = gl.length := by simp [bys]
    omega
  by_cases hb : 4000 < N
  · have t1 : decide ((4000 : Int) < (N : Int)) = true := by simp; omega
    have t2 : decide ((N : Int) ≤ 4096) = true := by simp; omega
    clear e1 e2 e3 ho h hmn emn hso hd hgl hb hN hD hg
    generalize nmL gl = L at *
    go_enter Tryz.func7, Tryz.ntmps7
    go_wp2_with (first
      | (go_at_call 9; (with_reducible refine hbg.mono ?_); rintro e w1 ⟨rfl, b1⟩; have B1 := k0.trans (b1.mono k0.size); have R1 := (b1.block w.heap.size (by simp)).trans r0; obtain ⟨q0, q1, q2, q3, q4, q5⟩ := box6 R1)
      | (go_at_call 17; (with_reducible refine (hna _ B1).mono ?_); rintro e w2 ⟨o, c, rfl, b2, _⟩; have B2 := B1.trans (b2.mono B1.size); have R2 := (b2.block w.heap.size (Array.getElem?_eq_some_iff.1 R1).1).trans R1; obtain ⟨p0, p1, p2, p3, p4, p5⟩ := box6 R2)
      | (go_at_call 13; (with_reducible refine (hsz _ B2).mono ?_); rintro e w3 ⟨rfl, b3⟩))
    go_ret
    exact ⟨rfl, B2.trans (b3.mono B2.size)⟩
  have t1 : decide ((4000 : Int) < (N : Int)) = false := by simp; omega
  obtain ⟨L, hL⟩ : ∃ L, L = nmL gl := ⟨_, rfl⟩
  have HP : Hid (L.Pairwise (· < ·)) := by rw [hL]; exact (nm_facts gl).1
  rw [← hL] at hna hLl
  obtain ⟨F, hF⟩ : ∃ F : Nat → Bool, F = fun j => (L.take j).any (fun b => decide (b = nm.data.toList)) := ⟨_, rfl⟩
  have F0 : F 0 = false := by rw [hF]; rfl
  have HFs : Hid (∀ j, j < L.length → F (j + 1) = (F j || decide (L.getD j [] = nm.data.toList))) := fun j hj => by rw [hF]; exact any_take L _ j hj
  have HFn : Hid (F L.length = true ↔ nm.data.toList ∈ L) := by
    rw [hF]
    show (L.take L.length).any _ = true ↔ _
    rw [List.take_length, List.any_eq_true]
    constructor
    · rintro ⟨y, hy, e⟩
      have : y = nm.data.toList := by simpa using e
      rw [← this]; exact hy
    · intro hy
      exact ⟨_, hy, by simp⟩
  have HT : Hid (Tv w (d + 1) x [.int .i64 k, .string t, .int .i64 n, .slice so sn sc, .slice ao an ac, .slice ko kn kc]) := h
  have HMN : Hid (_) := hmn
  have HEM : Hid (_) := emn
  have HSO : Hid (_) := hso
  have HNN : Hid (N ≤ 4000) := by show _ ≤ _; omega
  have HD : Hid (D ≤ 256) := hd.2
  have HLg : Hid (L = nmL gl) := hL
  have HGl : Hid (gl.length ≤ 4096) := by show _ ≤ _; omega
  clear e1 e2 e3 ho h hmn emn hso hd hgl hb hN hD hg hF hL
  go_enter Tryz.func7, Tryz.ntmps7
  go_upto_region 7 with (first
    | (go_at_call 9; (with_reducible refine hbg.mono ?_); rintro e w1 ⟨rfl, b1⟩; have B1 := k0.trans (b1.mono k0.size); have R1 := (b1.block w.heap.size (by simp)).trans r0; obtain ⟨q0, q1, q2, q3, q4, q5⟩ := box6 R1)
    | (go_at_call 17; (with_reducible refine (hna _ B1).mono ?_); rintro e w2 ⟨o, c, rfl, b2, sx2⟩; have B2 := B1.trans (b2.mono B1.size); have R2 := (b2.block w.heap.size (Array.getElem?_eq_some_iff.1 R1).1).trans R1; obtain ⟨p0, p1, p2, p3, p4, p5⟩ := box6 R2)
    | (go_at_call 13; (with_reducible refine (hsz _ B2).mono ?_); rintro e w3 ⟨rfl, b3⟩))
  have B3 := B2.trans (b3.mono B2.size)
  have R3 := (b3.block w.heap.size (Array.getElem?_eq_some_iff.1 R2).1).trans R2
  have SX2 : Sx w2 o L := fun h0 => by obtain ⟨g, e, _, s⟩ := sx2 h0; exact ⟨g, e, s⟩
  have SX3 := SX2.below b3
  clear q0 q1 q2 q3 q4 q5 p0 p1 p2 p3 p4 p5 b1 b2 b3 B1 B2 R1 R2 hbg hna k0 r0 sx2 SX2 t1
  have HLc : Hid (∀ k, k < L.length → ∃ g, o = some ⟨g, 0, none⟩ ∧ w3.cell? ⟨g, k, none⟩ = some (.string ⟨(L.getD k []).toArray⟩)) := fun k hk => by
    obtain ⟨g, e, s⟩ := SX3 (by omega)
    exact ⟨g, e, (s.cells k hk).1⟩
  obtain ⟨LN, hLN⟩ : ∃ LN, LN = L.length := ⟨_, rfl⟩
  rw [← hLN] at HLc HFs hLl HFn
  have HLNq : Hid (LN = L.length) := hLN
  go_wp2
  rw [← hLN]
  clear hLN
  go_loopw [8, 9] (fun s i V => ∃ j : Nat, j ≤ LN ∧ i = .int .i64 (j : Nat) ∧ s = .bool (F j) ∧ ∃ q, V = w3.drewN q) (fun _ i _ => LN - (intOf i).toNat)
  case atStart => exact ⟨0, Nat.zero_le _, rfl, by rw [F0], 0, rfl⟩
  case round =>
    obtain ⟨j, hj, rfl, rfl, q, rfl⟩ := hrel
    by_cases hlt : j < LN
    · have t3 : decide ((j : Int) < (LN : Int)) = true := by simp; omega
      have fs := HFs.out j hlt
      obtain ⟨g, rfl, c2⟩ := HLc.out j hlt
      have hE0 : ((⟨(L.getD j []).toArray⟩ : ByteArray).toList == nm.toList) = decide (L.getD j [] = nm.data.toList) := by
        rw [ByteArray.toList_mk, ByteArray.toList_eq]
        cases q : decide (L.getD j [] = nm.data.toList) with
        | true => rw [of_decide_eq_true q]; simp
        | false => simpa using q
      have HJ : Hid (F (j + 1) = (F j || decide (L.getD j [] = nm.data.toList))) := fs
      have fin : ∀ (V : World), (∃ q, V = w3.drewN q) → F (j + 1) = (F j || ((⟨(L.getD j []).toArray⟩ : ByteArray).toList == nm.toList)) := fun _ _ => by rw [hE0]; exact fs
      have HFin : Hid (F (j + 1) = (F j || ((⟨(L.getD j []).toArray⟩ : ByteArray).toList == nm.toList))) := by show _ = _; rw [hE0]; exact fs
      have wj1 : IntKind.i64.wrap ((j : Int) + 1) = (j : Int) + 1 := by rw [wrT (by omega) (by omega)]
      clear fin fs hE0
      by_cases h0 : j = 0
      · have t5 : decide (0 < (j : Int)) = false := by simp; omega
        have t5' : decide (0 < j) = false := by simp; omega
        have H0 : Hid (j = 0) := h0
        clear h0
        generalize (⟨(L.getD j []).toArray⟩ : ByteArray) = sb at *
        have hfj : F j = false := by rw [H0.out]; exact F0
        rw [hfj, Bool.false_or] at HFin
        generalize hff : F (j + 1) = fj at *
        have hE : (sb.toList == nm.toList) = fj := HFin.out.symm
        go_wp2
        go_quiet (fail)
        go_wp2
        go_roundw
        case rel => exact ⟨j + 1, by omega, by go_num, by rw [hff], _, rfl⟩
        case measure => simp [intOf]; omega
      · obtain ⟨i, hi⟩ : ∃ i, j = i + 1 := ⟨j - 1, by omega⟩
        obtain ⟨g', eg, c1⟩ := HLc.out i (by omega)
        obtain rfl : g = g' := by injection eg with eg; injection eg
        have t5 : decide (0 < (j : Int)) = true := by simp; omega
        have t5' : decide (0 < j) = true := by simp; omega
        have wj : IntKind.i64.wrap ((j : Int) - 1) = (i : Int) := by rw [wrT (by omega) (by omega)]; omega
        have bl := rise_at HP.out i (by have := HLNq.out; omega)
        rw [← hi] at bl
        have bi : (i : Int) < (LN : Int) := by omega
        have HI : Hid (j = i + 1) := hi
        clear hi h0 eg
        generalize (⟨(L.getD i []).toArray⟩ : ByteArray) = sa at *
        generalize (⟨(L.getD j []).toArray⟩ : ByteArray) = sb at *
        generalize hff : F (j + 1) = fj at *
        cases hfj : F j
        · rw [hfj, Bool.false_or] at HFin
          have hE : (sb.toList == nm.toList) = fj := HFin.out.symm
          go_wp2
          go_quiet (fail)
          go_wp2
          go_roundw
          case rel => exact ⟨j + 1, by omega, by go_num, by rw [hff], _, rfl⟩
          case measure => simp [intOf]; omega
        · rw [hfj, Bool.true_or] at HFin
          have hE : fj = true := HFin.out
          go_wp2
          go_quiet (fail)
          go_wp2
          go_roundw
          case rel => exact ⟨j + 1, by omega, by go_num, by rw [hff, hE], _, rfl⟩
          case measure => simp [intOf]; omega
    · obtain rfl : j = LN := by omega
      have t3 : decide ((j : Int) < (j : Int)) = false := by simp
      have bq : Below w3.heap.size w3 (w3.drewN q) := below_drewN (Below.refl _ _) q
      have B4 := B3.trans (bq.mono B3.size)
      have R4 := (bq.block w.heap.size (Array.getElem?_eq_some_iff.1 R3).1).trans R3
      have SX4 := SX3.below bq
      clear B3 R3 SX3 HLc HFs bq F0
      go_upto_region 14 with fail
      generalize w3.drewN q = w4 at *
      obtain ⟨q0, q1, q2, q3, q4, q5⟩ := box6 R4
      by_cases h256 : D = 256
      · have t4 : decide (256 ≤ (D : Int)) = true := by simp; omega
        clear h256
        go_wp2_with (first
          | (go_at_call 13; (with_reducible refine (hsz _ B4).mono ?_); rintro e w5 ⟨rfl, b5⟩))
        go_ret
        exact ⟨rfl, B4.trans (b5.mono B4.size)⟩
      have t4 : decide (256 ≤ (D : Int)) = false := by have := HD.out; simp; omega
      have hs := HSO.out HNN.out (by have := HD.out; omega)
      have em := HEM.out hs
      obtain ⟨M, hM⟩ : ∃ M, M = nmL (gl ++ [nm]) := ⟨_, rfl⟩
      have hcall : ∀ w5 : World, Below w.heap.size w w5 → Calls Tryz.prog 17 #[.agg #[.int .i64 3, .string ⟨#[]⟩, .int .i64 0, .slice none 0 0, .slice none 0 0, .slice (some ⟨w5.heap.size, 0, none⟩) 2 2]] (w5.alloc (.cells #[.int .i64 k, .string t, .int .i64 n, .slice so sn sc, .slice ao an ac, .slice ko kn kc, .int .i64 2, .string nm, .int .i64 0, .slice none 0 0, .slice none 0 0, .slice none 0 0] 31)) fun e w' => ∃ o c, e = .returned (.slice o M.length c) ∧ Below (w5.alloc (.cells #[.int .i64 k, .string t, .int .i64 n, .slice so sn sc, .slice ao an ac, .slice ko kn kc, .int .i64 2, .string nm, .int .i64 0, .slice none 0 0, .slice none 0 0, .slice none 0 0] 31)).heap.size (w5.alloc (.cells #[.int .i64 k, .string t, .int .i64 n, .slice so sn sc, .slice ao an ac, .slice ko kn kc, .int .i64 2, .string nm, .int .i64 0, .slice none 0 0, .slice none 0 0, .slice none 0 0] 31)) w' ∧ Sx w' o M := fun w5 b5 => by
        have kx := box_below w5 (.cells #[.int .i64 k, .string t, .int .i64 n, .slice so sn sc, .slice ao an ac, .slice ko kn kc, .int .i64 2, .string nm, .int .i64 0, .slice none 0 0, .slice none 0 0, .slice none 0 0] 31)
        have q := HMN.out _ w5.heap.size _ _ _ _ _ _ (Tv.below (b5.trans (kx.mono b5.size)) (Nat.le_refl _) _ _ _ HT.out) (allocNew w5 (.cells #[.int .i64 k, .string t, .int .i64 n, .slice so sn sc, .slice ao an ac, .slice ko kn kc, .int .i64 2, .string nm, .int .i64 0, .slice none 0 0, .slice none 0 0, .slice none 0 0] 31)) hs
        rw [em, ← hM] at q
        refine q.mono ?_
        rintro e w' ⟨o, c, he, hb, hx⟩
        exact ⟨o, c, he, hb, fun h0 => by obtain ⟨g, e, _, s⟩ := hx h0; exact ⟨g, e, s⟩⟩
      have hMl : M.length ≤ 5000 := by
        rw [hM]
        have h1 : (nmL (gl ++ [nm])).length ≤ ((bys (gl ++ [nm])).mergeSort fun x y => decide (x ≤ y)).length := compact_le _
        rw [List.length_mergeSort] at h1
        have h2 : (bys (gl ++ [nm])).length = gl.length + 1 := by simp [bys]
        have := HGl.out
        omega
      have HMq : Hid (M = nmL (gl ++ [nm])) := hM
      clear hs em h256 hM HMN HEM HSO
      cases hin : F j
      · have hni : nm.data.toList ∉ nmL gl := fun hc => by rw [← HLg.out] at hc; rw [HFn.out.2 hc] at hin; cases hin
        have hml : M.length = j + 1 := by rw [HMq.out, nm_len hni, ← HLg.out, ← HLNq.out]
        have hfl : M.filter (fun b => !decide (b = nm.data.toList)) = L := by rw [HMq.out, nm_new hni, HLg.out]
        clear hni
        have HMf : Hid (M.filter (fun b => !decide (b = nm.data.toList)) = L) := hfl
        clear hfl
        obtain ⟨A, hA⟩ : ∃ A : Nat → Nat, A = fun r => ((M.take r).filter (fun b => !decide (b = nm.data.toList))).length := ⟨_, rfl⟩
        have HA0 : A 0 = 0 := by rw [hA]; rfl
        have HAe : A (j + 1) = j := by
          rw [hA]
          show ((M.take (j + 1)).filter _).length = j
          rw [← hml, List.take_length, HMf.out, ← HLNq.out]
        have HAy : Hid (∀ r, r < j + 1 → M.getD r [] ≠ nm.data.toList → A (r + 1) = A r + 1 ∧ A r < j ∧ L.getD (A r) [] = M.getD r []) := fun r hr hne => by
          have hp : (fun b => !decide (b = nm.data.toList)) (M.getD r []) = true := by simpa using hne
          obtain ⟨h1, h2⟩ := filt_at (fun b => !decide (b = nm.data.toList)) M r (by omega) hp
          rw [HMf.out] at h1 h2
          rw [hA]
          exact ⟨filt_yes _ M r (by omega) hp, by rw [HLNq.out]; exact h2, h1⟩
        have HAn : Hid (∀ r, r < j + 1 → M.getD r [] = nm.data.toList → A (r + 1) = A r) := fun r hr he => by
          have hp : (fun b => !decide (b = nm.data.toList)) (M.getD r []) = false := by
            show (!decide (M.getD r [] = nm.data.toList)) = false
            rw [decide_eq_true he]; rfl
          rw [hA]
          exact filt_no _ M r (by omega) hp
        have HAE : Hid (A (j + 1) = j) := HAe
        have HML : Hid (M.length = j + 1) := hml
        rw [hml] at hcall
        have wj1 : IntKind.i64.wrap ((j : Int) + 1) = (j : Int) + 1 := by rw [wrT (by omega) (by omega)]
        have wne : ((((j + 1 : Nat) : Int)) != (j : Int) + 1) = false := by simp
        clear hA HAe hml HMf HMq
        go_upto_region 22 with (first
          | (go_at_call 13; (with_reducible refine (hsz _ B4).mono ?_); rintro e w5 ⟨rfl, b5⟩; have B5 := B4.trans (b5.mono B4.size); have R5 := (b5.block w.heap.size (Array.getElem?_eq_some_iff.1 R4).1).trans R4; obtain ⟨y0, y1, y2, y3, y4, y5⟩ := box6 R5)
          | (go_at_call 17; (with_reducible refine (hcall w5 B5).mono ?_); rintro e w6 ⟨o2, c2, rfl, b6, SX6⟩))
        have kx := box_below w5 (.cells #[.int .i64 k, .string t, .int .i64 n, .slice so sn sc, .slice ao an ac, .slice ko kn kc, .int .i64 2, .string nm, .int .i64 0, .slice none 0 0, .slice none 0 0, .slice none 0 0] 31)
        have B5x := B5.trans (kx.mono B5.size)
        have B6 := B5x.trans (b6.mono B5x.size)
        have SXo := ((SX4.below b5).below kx).below b6
        have HLc : Hid (∀ k, k < j → ∃ g, o = some ⟨g, 0, none⟩ ∧ w6.cell? ⟨g, k, none⟩ = some (.string ⟨(L.getD k []).toArray⟩)) := fun k hk => by
          have e := HLNq.out
          obtain ⟨g, e, s⟩ := SXo (by omega)
          exact ⟨g, e, (s.cells k (by omega)).1⟩
        have HMc : Hid (∀ k, k < j + 1 → ∃ g, o2 = some ⟨g, 0, none⟩ ∧ w6.cell? ⟨g, k, none⟩ = some (.string ⟨(M.getD k []).toArray⟩)) := fun k hk => by
          have e := HML.out
          obtain ⟨g, e, s⟩ := SX6 (by omega)
          exact ⟨g, e, (s.cells k (by omega)).1⟩
        clear kx B5x SXo SX6 b6 b5 B5 R5 B4 R4 SX4 q0 q1 q2 q3 q4 q5 y0 y1 y2 y3 y4 y5 hcall hsz wne
        have jM : j + 1 ≤ 5000 := by have := HML.out; omega
        go_wp2
        go_loopw [13, 14] (fun a i V => ∃ r : Nat, r ≤ j + 1 ∧ i = .int .i64 (r : Nat) ∧ a = .int .i64 (A r : Nat) ∧ ∃ q, V = w6.drewN q) (fun _ i _ => (j + 1) - (intOf i).toNat)
        case atStart => exact ⟨0, Nat.zero_le _, rfl, by rw [HA0]; rfl, 0, rfl⟩
        case round =>
          obtain ⟨r, hr, rfl, rfl, q, rfl⟩ := hrel
          clear HA0
          by_cases hlt : r < j + 1
          · have t3 : decide ((r : Int) < (j : Int) + 1) = true := by simp; omega
            have t3' : decide ((r : Int) < ((j + 1 : Nat) : Int)) = true := by simp; omega
            have br : (r : Int) < (j : Int) + 1 := by omega
            have br' : (r : Int) < ((j + 1 : Nat) : Int) := by omega
            obtain ⟨g2, rfl, c2⟩ := HMc.out r hlt
            have wr1 : IntKind.i64.wrap ((r : Int) + 1) = (r : Int) + 1 := by rw [wrT (by omega) (by omega)]
            by_cases he : M.getD r [] = nm.data.toList
            · have eA := HAn.out r hlt he
              have HEA : Hid (A (r + 1) = A r) := eA
              have hE : ((⟨(M.getD r []).toArray⟩ : ByteArray).toList == nm.toList) = true := by rw [ByteArray.toList_mk, ByteArray.toList_eq, he]; simp
              clear eA he
              generalize (⟨(M.getD r []).toArray⟩ : ByteArray) = sm at *
              go_wp2
              go_roundw
              case rel => exact ⟨r + 1, by omega, by go_num, by rw [HEA.out], _, rfl⟩
              case measure => simp [intOf]; omega
            · obtain ⟨eA, lA, sA⟩ := HAy.out r hlt he
              have HEA : Hid (A (r + 1) = A r + 1) := eA
              have hE : ((⟨(M.getD r []).toArray⟩ : ByteArray).toList == nm.toList) = false := by rw [ByteArray.toList_mk, ByteArray.toList_eq]; simpa using he
              obtain ⟨g1, rfl, c1⟩ := HLc.out (A r) lA
              rw [sA] at c1
              clear eA he sA
              have t6 : decide ((j : Int) ≤ (A r : Int)) = false := by simp; omega
              have bA : (A r : Int) < (j : Int) := by omega
              have wA : IntKind.i64.wrap ((A r : Int) + 1) = (A r : Int) + 1 := by rw [wrT (by omega) (by omega)]
              generalize (⟨(M.getD r []).toArray⟩ : ByteArray) = sm at *
              have hne : (sm.toList == sm.toList) = true := by simp
              generalize hAr : A r = ar at *
              go_wp2
              go_quiet (fail)
              go_wp2
              go_roundw
              case rel => exact ⟨r + 1, by omega, by go_num, by rw [HEA.out]; go_num, _, rfl⟩
              case measure => simp [intOf]; omega
          · obtain rfl : r = j + 1 := by omega
            have t3 : decide ((j : Int) + 1 < (j : Int) + 1) = false := by simp
            have t3' : decide (((j + 1 : Nat) : Int) < ((j + 1 : Nat) : Int)) = false := by simp
            have eA := HAE.out
            have t7 : ((A (j + 1) : Int) == (j : Int)) = true := by rw [eA]; simp
            have HB : Hid (A (j + 1) = j) := eA
            clear eA
            generalize A (j + 1) = ae at *
            go_wp2
            go_ret
            exact ⟨rfl, below_drewN B6 q⟩
      · have hmem : nm.data.toList ∈ nmL gl := by rw [← HLg.out]; exact HFn.out.1 hin
        have hml : M = L := by rw [HMq.out, nm_in hmem, HLg.out]
        subst hml
        clear HMq hmem
        have htx := fun V o2 c2 (h1 : Sx V o M) (h2 : Sx V o2 M) => texts_any M M o o2 c c2 V h1 h2 hMl hMl
        have ej := HLNq.out
        rw [← ej] at htx hcall
        have dm : decide (M = M) = true := by simp
        rw [dm] at htx
        clear ej dm
        go_wp2_with (first
          | (go_at_call 13; (with_reducible refine (hsz _ B4).mono ?_); rintro e w5 ⟨rfl, b5⟩; have B5 := B4.trans (b5.mono B4.size); have R5 := (b5.block w.heap.size (Array.getElem?_eq_some_iff.1 R4).1).trans R4; obtain ⟨y0, y1, y2, y3, y4, y5⟩ := box6 R5)
          | (go_at_call 17; (with_reducible refine (hcall w5 B5).mono ?_); rintro e w6 ⟨o2, c2, rfl, b6, SX6⟩
             have kx := box_below w5 (.cells #[.int .i64 k, .string t, .int .i64 n, .slice so sn sc, .slice ao an ac, .slice ko kn kc, .int .i64 2, .string nm, .int .i64 0, .slice none 0 0, .slice none 0 0, .slice none 0 0] 31)
             have B5x := B5.trans (kx.mono B5.size)
             have B6 := B5x.trans (b6.mono B5x.size)
             have SXo := ((SX4.below b5).below kx).below b6)
          | (go_at_call 18; (with_reducible refine (htx _ _ _ SXo SX6).mono ?_); rintro e w7 ⟨rfl, q, rfl⟩))
        go_ret
        exact ⟨rfl, below_drewN B6 q⟩
theorem named_any : ∀ (d : Nat) (x : Tr d) (c0 c1 c2 c3 c4 c5 : Value) (nm : ByteArray) (w : World), Tv w d x [c0, c1, c2, c3, c4, c5] → nm.size ≤ 140737488355328 → Calls Tryz.prog 7 #[.agg #[c0, c1, c2, c3, c4, c5], .string nm] w fun e w' => e = .returned (.bool true) ∧ Below w.heap.size w w'
  | 0, _, _, _, _, _, _, _, _, _, h, _ => h.elim
  | d + 1, x, c0, c1, c2, c3, c4, c5, nm, w, h, hnm => by
    have h0 := h
    obtain ⟨⟨so, sn, sc, ao, an, ac, ko, kc, ev, h1, h2, h3, h4, h5, h6⟩, _, _, ht⟩ := h
    injection ev with ev0 ev
    injection ev with ev1 ev
    injection ev with ev2 ev
    injection ev with ev3 ev
    injection ev with ev4 ev
    injection ev with ev5 ev
    subst ev0 ev1 ev2 ev3 ev4 ev5
    exact named_one d x _ _ _ nm so ao ko sn sc an ac x.ks.length kc w h0 hnm
end Go.Proofs.YtiahilelcppfgaaGreat
