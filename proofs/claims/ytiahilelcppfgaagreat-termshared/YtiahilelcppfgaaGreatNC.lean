
/- Package term: Names. -/

import Derived.Test.YtiahilelcppfgaaGreatNB

import Derived.Test.YtiahilelcppfgaaGreatYTr

namespace Go.Proofs.YtiahilelcppfgaaGreat

open Go.RowKit Go.Sort

set_option linter.unusedVariables false

/-- What a call of Names hands out: a list of its own, that reads as the texts. -/
def NmP (l : List (List UInt8)) (w : World) (e : Ending) (w' : World) : Prop := ∃ o c, e = .returned (.slice o l.length c) ∧ Below w.heap.size w w' ∧ (0 < l.length → ∃ g, o = some ⟨g, 0, none⟩ ∧ w.heap.size ≤ g ∧ Sr w' g l)
theorem Sr.keep {W V : World} {g : Nat} {l : List (List UInt8)} (h : Sr W g l) (hs : W.heap.size ≤ V.heap.size) (hk : V.heap[g]? = W.heap[g]?) : Sr V g l :=
  ⟨Nat.lt_of_lt_of_le h.lt hs, fun i hi => by
    have := h.cells i hi
    simp only [World.cell?, World.frozen?] at this ⊢
    rw [hk]; exact this⟩
theorem nmL_nil : nmL [] = [] := List.eq_nil_of_length_eq_zero (Nat.le_zero.1 (Nat.le_trans (compact_le _) (by simp [bys])))
set_option linter.unusedSimpArgs false in
set_option maxRecDepth 100000 in
set_option maxHeartbeats 8000000 in
theorem names_any (d : Nat) (x : Tr d) (c0 c1 c2 c3 c4 c5 : Value) (w : World) (h : Tv w d x [c0, c1, c2, c3, c4, c5]) :
    Calls Tryz.prog 17 #[.agg #[c0, c1, c2, c3, c4, c5]] w fun e w' => NmP (nmT d x) w e w' := by
  obtain ⟨k1, t1, n1, so, sn, sc, ao, an, ac, uo, un, uc, ev⟩ := h.form
  injection ev with ev0 ev
  injection ev with ev1 ev
  injection ev with ev2 ev
  injection ev with ev3 ev
  injection ev with ev4 ev
  injection ev with ev5 ev
  subst ev0 ev1 ev2 ev3 ev4 ev5
  have k0 := box_below w (.cells #[.int .i64 k1, .string t1, .int .i64 n1, .slice so sn sc, .slice ao an ac, .slice uo un uc] 31)
  have r0 := allocNew w (.cells #[.int .i64 k1, .string t1, .int .i64 n1, .slice so sn sc, .slice ao an ac, .slice uo un uc] 31)
  obtain ⟨q0, q1, q2, q3, q4, q5⟩ := box6 r0
  have htg := tooGreat_any d x _ _ _ _ _ _ _ (Tv.below k0 (Nat.le_refl _) _ _ _ h)
  cases ho : szO d x
  · have en : nmT d x = [] := by unfold nmT; rw [ho]; rfl
    rw [ho] at htg
    rw [en]
    clear h ho
    go_enter Tryz.func17, Tryz.ntmps17
    go_wp2_with (go_at_call 34; (with_reducible refine htg.mono ?_); rintro e w1 ⟨rfl, b1⟩)
    go_ret
    exact ⟨none, 0, rfl, k0.trans (b1.mono k0.size), fun h => absurd h (Nat.lt_irrefl 0)⟩
  have en : nmT d x = nmL (gat d x) := by unfold nmT; rw [ho]; rfl
  rw [ho] at htg
  rw [en]
  have hnd := (of_decide_eq_true (show decide (nds d x ≤ 4096 ∧ dep d x ≤ 256) = true from ho)).1
  have hgl := gat_len d x
  have hsm := nmL_small h
  have hga := fun W pn pg (C : Gn w W pn pg none 0 0 []) => gather_any d x _ _ _ _ _ _ w W pn pg none 0 0 [] h C (by omega)
  obtain ⟨gl, hgt⟩ : ∃ gl, gl = gat d x := ⟨_, rfl⟩
  rw [← hgt] at hgl hsm hga ⊢
  have HS : Hid (∀ b ∈ nmL gl, b.length ≤ 140737488355328) := hsm
  have HL : Hid (gl.length ≤ 4096) := by show _ ≤ _; omega
  clear hgt ho h hnd hgl hsm en
  go_enter Tryz.func17, Tryz.ntmps17
  go_upto_region 3 with (go_at_call 34; (with_reducible refine htg.mono ?_); rintro e w1 ⟨rfl, b1⟩)
  have B1 := k0.trans (b1.mono k0.size)
  have R1 := (b1.block w.heap.size (by simp)).trans r0
  clear q0 q1 q2 q3 q4 q5 b1 k0 r0 htg
  have N1 := Boxed.new w1 47 (.slice none 0 0)
  have N2 := Boxed.new (w1.alloc (.cells #[.slice none 0 0] 47)) 64 (cloG w1.heap.size (w1.heap.size + 1))
  rw [World.size_alloc] at N2
  have kA := box_below w1 (.cells #[.slice none 0 0] 47)
  have kB := box_below (w1.alloc (.cells #[.slice none 0 0] 47)) (.cells #[cloG w1.heap.size (w1.heap.size + 1)] 64)
  have kAB := kA.trans (kB.mono kA.size)
  have C5 : Gn w ((w1.alloc (.cells #[.slice none 0 0] 47)).alloc (.cells #[cloG w1.heap.size (w1.heap.size + 1)] 64)) w1.heap.size (w1.heap.size + 1) none 0 0 [] :=
    ⟨B1.trans (kAB.mono B1.size), B1.size, Nat.lt_succ_self _, by simp, (kB.block _ (by simp)).trans (allocNew w1 (.cells #[.slice none 0 0] 47)), N2.cell, World.ownsRow_nil _ _ _ _⟩
  have hcl := hga _ _ _ C5
  have zc := N2.cell
  have R5 := (kAB.block w.heap.size (Array.getElem?_eq_some_iff.1 R1).1).trans R1
  unfold cloG at zc hcl R5
  obtain ⟨q0, q1, q2, q3, q4, q5⟩ := box6 R5
  unfold GnP at hcl
  rw [Nat.zero_add, List.nil_append] at hcl
  clear hga N1 N2 kA kB kAB C5 R1
  have LB := B1.size
  clear B1
  go_upto_region 7 with (go_at_call 39; (with_reducible refine hcl.mono ?_); rintro e w6 ⟨rfl, o, c, G6⟩)
  obtain ⟨pn, hpn⟩ : ∃ pn, pn = w1.heap.size := ⟨_, rfl⟩
  rw [← hpn] at G6 LB ⊢
  clear hcl q0 q1 q2 q3 q4 q5 zc R5 hpn
  have bel6 := G6.bel
  have p6 : w6.cell? ⟨pn, 0, none⟩ = some (.slice o gl.length c) := cell_of_row w6 pn 0 _ _ (0, 0) G6.bn
  have f6 := frozen_of_row w6 pn 0 _ _ G6.bn
  by_cases hm : gl.length = 0
  · have e0 : gl = [] := List.eq_nil_of_length_eq_zero hm
    subst e0
    rw [show ([] : List ByteArray).length = 0 from rfl] at p6 G6
    have hst := fun W => Tryz.slices_Sort_string_none o c W
    have hco := fun W => Tryz.slices_Compact_string_empty o c W
    have s6 := (set1 w6 pn 0 (.slice o 0 c))
    have r6 := heap_setCell_same w6 pn 0 _ _ (.slice o 0 c) G6.bn
    have p7 : (w6.setCell ⟨pn, 0, none⟩ (.slice o 0 c)).cell? ⟨pn, 0, none⟩ = some (.slice o 0 c) := cell_of_row _ pn 0 _ _ (0, 0) r6
    have b7 := bel6.grown s6 bel6.size (fun q e => by injection e with e; have := G6.ln; omega)
    clear HS HL G6 hm r6
    go_wp2_with (first
      | (go_at_call 40; (with_reducible refine (hst _).mono ?_); rintro e w7 ⟨rfl, hw7⟩; rw [hw7]; clear hw7)
      | (go_at_call 41; (with_reducible refine (hco _).mono ?_); rintro e w8 ⟨rfl, hw8⟩; rw [hw8]; clear hw8))
    refine wp_loop_rounds 1 ?_
    rw [rounds_succ]
    go_wp2
    go_ret
    rw [nmL_nil]
    exact ⟨o, c, rfl, b7, fun h => absurd h (Nat.lt_irrefl 0)⟩
  have hm' : 0 < gl.length := by omega
  obtain ⟨_, hmc, g, rfl, hgg, S6⟩ := gn_sr G6 hm'
  have hbl : (bys gl).length = gl.length := by simp [bys]
  obtain ⟨srt, hsrt⟩ : ∃ srt, srt = (bys gl).mergeSort fun x y => decide (x ≤ y) := ⟨_, rfl⟩
  have lso : srt.length = gl.length := by rw [hsrt, List.length_mergeSort, hbl]
  have hst0 := Tryz.slices_Sort_string g 0 c (bys gl) w6 S6.holds S6.lt (by rw [hbl]; have := HL.out; omega)
  rw [hbl, ← hsrt] at hst0
  have hst := hst0.mono (R' := fun e w' => e = .returned (.tuple #[]) ∧ Below (pn + 1) w6 w' ∧ Sr w' g srt) (by
    rintro e w' ⟨rfl, n, os, rfl⟩
    exact ⟨rfl, below_put (by omega) S6.lt, sr_sort S6 (by rw [lso, hbl])⟩)
  obtain ⟨L, hL⟩ : ∃ L, L = nmL gl := ⟨_, rfl⟩
  have hL2 : L = Lib.compact srt := by rw [hL, hsrt]; rfl
  have hco : ∀ W, Sr W g srt → Calls Tryz.prog 41 #[.slice (some ⟨g, 0, none⟩) gl.length c] W fun e w' => e = .returned (.slice (some ⟨g, 0, none⟩) L.length c) ∧ Below (pn + 1) W w' ∧ Sr w' g L := fun W S => by
    have q := Tryz.slices_Compact_string g 0 c srt W S.holds (by rw [lso]; have := HL.out; omega) (by rw [lso]; exact hmc)
    rw [lso, ← hL2] at q
    refine q.mono ?_
    rintro e w' ⟨rfl, n, rfl⟩
    have hle : L.length ≤ gl.length := by rw [hL2, ← lso]; exact compact_le _
    refine ⟨rfl, below_put0 (by omega) S.lt, ?_⟩
    have S2 := (sr_put0 (n := n) S (l' := L ++ List.replicate (gl.length - L.length) []) (by rw [List.length_append, List.length_replicate, lso]; omega)).take L.length (by rw [List.length_append]; omega)
    rw [List.take_left'] at S2
    · exact S2
    · rfl
  have HLs : Hid (∀ i, i < L.length → (⟨(L.getD i []).toArray⟩ : ByteArray).size ≤ 140737488355328) := fun i hi => by
    have hmem : L.getD i [] ∈ nmL gl := by
      rw [← hL]
      simp only [List.getD, List.getElem?_eq_getElem hi, Option.getD]
      exact List.getElem_mem hi
    have := HS.out _ hmem
    show (L.getD i []).toArray.size ≤ _
    simpa using this
  have hLl : L.length ≤ 4096 := by
    have := HL.out
    have h2 : L.length ≤ srt.length := by rw [hL2]; exact compact_le _
    omega
  have HLq : Hid (L = nmL gl) := hL
  have gpn : pn < g := by have := G6.ng; omega
  have bn6 := G6.bn
  have szp : w.heap.size ≤ pn := G6.ln
  clear hst0 hsrt hL hL2 HS hm hm' hbl lso S6
  go_upto_region 8 with (go_at_call 40; (with_reducible refine hst.mono ?_); rintro e w7 ⟨rfl, b7, S7⟩)
  have bn7 := (b7.block pn (Nat.lt_succ_self _)).trans bn6
  have bel7 := bel6.trans (b7.mono (Nat.le_succ_of_le szp))
  have p7 : w7.cell? ⟨pn, 0, none⟩ = some (.slice (some ⟨g, 0, none⟩) gl.length c) := cell_of_row w7 pn 0 _ _ (0, 0) bn7
  clear hst b7 bel6 p6 f6 bn6 G6
  go_upto_region 9 with (go_at_call 41; (with_reducible refine (hco _ S7).mono ?_); rintro e w8 ⟨rfl, b8, S8⟩; have bn8 := (b8.block pn (Nat.lt_succ_self _)).trans bn7; have p8 : w8.cell? ⟨pn, 0, none⟩ = some (.slice (some ⟨g, 0, none⟩) gl.length c) := cell_of_row w8 pn 0 _ _ (0, 0) bn8; have f8 := frozen_of_row w8 pn 0 _ _ bn8)
  have bel8 := bel7.trans (b8.mono (Nat.le_succ_of_le szp))
  have s9 := set1 w8 pn 0 (.slice (some ⟨g, 0, none⟩) L.length c)
  have bn9 := heap_setCell_same w8 pn 0 _ _ (.slice (some ⟨g, 0, none⟩) L.length c) bn8
  have bel9 := bel8.grown s9 bel8.size (fun q e => by injection e with e; omega)
  have S9 := S8.keep s9.size (s9.block g S8.lt (fun e => by injection e with e; omega))
  clear b8 bel8 bel7 S7 S8 bn7 bn8 p7 p8 f8 s9 hco
  generalize w8.setCell ⟨pn, 0, none⟩ (.slice (some ⟨g, 0, none⟩) L.length c) = w9 at *
  replace bn9 : w9.heap[pn]? = some (.cells #[.slice (some ⟨g, 0, none⟩) L.length c] 47 (0, 0)) := bn9
  have p9 : w9.cell? ⟨pn, 0, none⟩ = some (.slice (some ⟨g, 0, none⟩) L.length c) := cell_of_row w9 pn 0 _ _ (0, 0) bn9
  generalize hn : L.length = n at *
  go_wp2
  go_loopw [19] (fun i V => ∃ j : Nat, j ≤ n ∧ i = .int .i64 (j : Nat) ∧ Sr V g L ∧ V.heap[pn]? = some (.cells #[.slice (some ⟨g, 0, none⟩) n c] 47 (0, 0)) ∧ Below w.heap.size w V) (fun i _ => n - (intOf i).toNat)
  case atStart => exact ⟨0, Nat.zero_le _, rfl, S9, bn9, bel9⟩
  case round =>
    obtain ⟨j, hj, rfl, S, bn, bel⟩ := hrel
    clear S9 bn9 bel9 p9
    have pc : wr.cell? ⟨pn, 0, none⟩ = some (.slice (some ⟨g, 0, none⟩) n c) := cell_of_row wr pn 0 _ _ (0, 0) bn
    by_cases hlt : j < n
    · have t3 : decide ((j : Int) < (n : Int)) = true := by simp; omega
      have bj : (j : Int) < (n : Int) := by omega
      obtain ⟨hcj, hfj⟩ := S.cells j (by omega)
      have hlim := HLs.out j (by omega)
      have hsame : ∀ V, Sr V g L → Sr (V.setCell ⟨g, j, none⟩ (.string ⟨(L.getD j []).toArray⟩)) g L := fun V q => q.same (by omega)
      have HSame : Hid (_) := hsame
      have hcl := fun V => strClone_any ⟨(L.getD j []).toArray⟩ V hlim
      generalize (⟨(L.getD j []).toArray⟩ : ByteArray) = sj at *
      clear hsame hlim
      go_upto_region 12 with fail
      refine wp_region_R (fun V => V.cell? ⟨pn, 0, none⟩ = some (.slice (some ⟨g, 0, none⟩) n c)) (fun i => decide (i ≠ 5)) (by kernel_rfl) ?_
      refine wpAnyR_take (i := 0) (v := .slice (some ⟨g, 0, none⟩) n c) rfl (by kernel_rfl) (by kernel_rfl) (by kernel_rfl) (by kernel_rfl) (fun _ _ _ h => h) (Or.inl ⟨by rfl, fun V hV => ?_⟩) ?_ ?_
      · have g0 := hV
        go_simp
      · exact pc
      conv => arg 9; simp [Act.put]
      refine wpAnyR_take (i := 1) (v := .int .i64 (j : Nat)) rfl (by kernel_rfl) (by kernel_rfl) (by kernel_rfl) (by kernel_rfl) (fun _ _ _ h => h) (Or.inl ⟨by rfl, fun V hV => ?_⟩) ?_ ?_
      · have g0 := hV
        go_simp
      · exact pc
      conv => arg 9; simp [Act.put]
      refine wpAnyR_take (i := 2) (v := .string sj) rfl (by kernel_rfl) (by kernel_rfl) (by kernel_rfl) (by kernel_rfl) (fun _ _ _ h => h) (Or.inl ⟨by rfl, fun V hV => ?_⟩) ?_ ?_
      · have g0 := hV
        go_simp
      · exact pc
      conv => arg 9; simp [Act.put]
      refine wpAnyR_one (i := 3) (by kernel_rfl) rfl (fun K hK => ?_)
      go_simp
      go_wp2_with (go_at_call 42; (with_reducible refine (hcl _).mono ?_); rintro e w3 ⟨rfl, b3⟩
                   have b3' : Below wr.heap.size wr w3 := ⟨b3.os, b3.tape, b3.output, b3.size, b3.block⟩
                   have S3 := S.below b3'
                   have bn3 := (b3'.block pn (Array.getElem?_eq_some_iff.1 bn).1).trans bn
                   have pc3 : w3.cell? ⟨pn, 0, none⟩ = some (.slice (some ⟨g, 0, none⟩) n c) := cell_of_row w3 pn 0 _ _ (0, 0) bn3
                   have bel3 := bel.trans (b3'.mono bel.size)
                   refine hK _ _ ⟨fun _ => pc3, ?_⟩; clear hK)
      conv => arg 9; simp [Act.put]
      refine wpAnyR_one (i := 4) (by kernel_rfl) rfl (fun K hK => ?_)
      go_simp
      refine hK _ _ ⟨fun _ => pc3, ?_⟩
      clear hK
      conv => arg 9; simp [Act.put]
      refine wpAnyR_one (i := 5) (by kernel_rfl) rfl (fun K hK => ?_)
      have hc3 := (b3'.cell (p := ⟨g, j, none⟩) S.lt).trans hcj
      have hf3 := (S3.cells j (by omega)).2
      have S4 := HSame.out _ S3
      have s4 := set1 w3 g j (.string sj)
      have bn4 := (s4.block pn (Array.getElem?_eq_some_iff.1 bn3).1 (fun e => by injection e with e; omega)).trans bn3
      have bel4 := bel3.grown s4 bel3.size (fun q e => by injection e with e; omega)
      go_simp
      refine hK _ _ ⟨fun h => absurd h (by decide), ?_⟩
      clear hK
      refine wpAnyR_done (by kernel_rfl) ?_ _
      clear hc3 hf3 s4 bel3 pc3 bn3 S3 b3 b3' hcj hfj S bn bel pc hcl
      generalize w3.setCell ⟨g, j, none⟩ (.string sj) = w4 at *
      go_wp2
      go_roundw
      case rel => exact ⟨j + 1, by omega, by go_num, S4, bn4, bel4⟩
      case measure => simp [intOf]; omega
    · obtain rfl : j = n := by omega
      have t3 : decide ((j : Int) < (j : Int)) = false := by simp
      go_wp2
      go_ret
      rw [← HLq.out]
      exact ⟨_, c, by rw [hn]; rfl, bel, fun _ => ⟨g, rfl, by omega, S⟩⟩
end Go.Proofs.YtiahilelcppfgaaGreat
