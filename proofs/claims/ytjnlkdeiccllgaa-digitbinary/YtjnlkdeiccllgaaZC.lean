
/- Contracts of package digit: counting. -/

import Derived.Test.YtjnlkdeiccllgaaZB

namespace Go.Proofs.Ytjnlkdeiccllgaa

open Go.RowKit

set_option linter.unusedVariables false

/-- Numbers without their signs. -/
def absL (zs : List Int) : List Int := zs.map (fun z => ((z.natAbs : Nat) : Int))
theorem absL_len (zs : List Int) : (absL zs).length = zs.length := by simp [absL]
theorem absL_nth {zs : List Int} {k : Nat} (h : k < zs.length) : nth (absL zs) k = ((nth zs k).natAbs : Nat) := by
  unfold absL nth; simp [h]
/-- The places of the first k axes. -/
def cnt (zs : List Int) (k : Nat) : List Int := (zs.take k).foldl (fun ps n => blw n ps) [0]
theorem cnt_zero (zs : List Int) : cnt zs 0 = [0] := rfl
theorem cnt_succ {zs : List Int} {k : Nat} (h : k < zs.length) : cnt zs (k + 1) = blw (nth zs k) (cnt zs k) := by
  unfold cnt; rw [take_nth h, List.foldl_append]; rfl
/-- How many they are. -/
def cntN (zs : List Int) (k : Nat) : Nat := (zs.take k).foldl (fun p n => p * n.natAbs) 1
theorem cntN_succ {zs : List Int} {k : Nat} (h : k < zs.length) : cntN zs (k + 1) = cntN zs k * (nth zs k).natAbs := by
  unfold cntN; rw [take_nth h, List.foldl_append]; rfl
theorem cnt_len (zs : List Int) : ∀ k, k ≤ zs.length → (cnt zs k).length = cntN zs k
  | 0, _ => rfl
  | k + 1, h => by rw [cnt_succ (by omega), cntN_succ (by omega), blw_len, cnt_len zs k (by omega)]
theorem cnt_mem (zs : List Int) : ∀ k, k ≤ zs.length → ∀ x ∈ cnt zs k, 0 ≤ x ∧ x < ((cntN zs k : Nat) : Int)
  | 0, _ => by intro x hx; simp [cnt] at hx; subst hx; simp [cntN]
  | k + 1, h => by rw [cnt_succ (by omega), cntN_succ (by omega)]; exact blw_mem (cnt_mem zs k (by omega))
theorem cntN_pz (zs : List Int) : ∀ k, k ≤ zs.length → ((cntN zs k : Nat) : Int) ≤ pz ((absL zs).take k)
  | 0, _ => by simp [cntN, pz]
  | k + 1, h => by
    have ih := cntN_pz zs k (by omega)
    rw [cntN_succ (by omega), take_nth (by rw [absL_len]; omega), pz_snoc, absL_nth (by omega)]
    have hp := pz_pos (l := absL zs) k (by rw [absL_len]; omega) (fun j hj => by rw [absL_nth (by omega)]; omega)
    split
    · rename_i e
      have e' : (nth zs k).natAbs = 0 := by omega
      rw [e', Nat.mul_zero]; omega
    · rw [Int.natCast_mul]
      exact Int.mul_le_mul_of_nonneg_right ih (by omega)
theorem abs_pos (zs : List Int) : ∀ k, k < (absL zs).length → 0 ≤ nth (absL zs) k := fun k hk => by rw [absL_nth (by rw [absL_len] at hk; exact hk)]; omega
theorem cntN_le {zs : List Int} (h : mayF (absL zs) = 0) {k : Nat} (hk : k ≤ zs.length) : cntN zs k ≤ 4096 := by
  obtain ⟨h1, h2, h3⟩ := mayF_zero h
  have a := cntN_pz zs k hk
  have b := pz_up (l := absL zs) (i := k) zs.length hk (by rw [absL_len]; exact Nat.le_refl _) (fun j hj => abs_pos zs j (by rw [absL_len]; exact hj))
  rw [List.take_of_length_le (l := absL zs) (i := zs.length) (by rw [absL_len]; exact Nat.le_refl _)] at b
  omega
theorem abs_le {zs : List Int} (h : mayF (absL zs) = 0) {k : Nat} (hk : k < zs.length) : (nth zs k).natAbs ≤ 4096 := by
  obtain ⟨h1, h2, h3⟩ := mayF_zero h
  by_cases h0 : (nth zs k).natAbs = 0
  · omega
  · have hp := pz_pos (l := absL zs) k (by rw [absL_len]; omega) (fun j hj => abs_pos zs j (by rw [absL_len]; omega))
    have b := pz_up (l := absL zs) (i := k + 1) zs.length (by omega) (by rw [absL_len]; exact Nat.le_refl _) (fun j hj => abs_pos zs j (by rw [absL_len]; exact hj))
    rw [List.take_of_length_le (l := absL zs) (i := zs.length) (by rw [absL_len]; exact Nat.le_refl _), take_nth (by rw [absL_len]; omega), pz_snoc, absL_nth hk, if_neg (by omega)] at b
    have := Int.mul_le_mul_of_nonneg_right hp (show 0 ≤ (((nth zs k).natAbs : Nat) : Int) by omega)
    omega
theorem abs_cases (zs : List Int) : mayF (absL zs) = 0 ∨ mayF (absL zs) = 17 := by
  rcases mayF_cases (absL zs) with h | h | h
  · exact .inl h
  · unfold mayF at h
    rw [any_no (abs_pos zs)] at h
    split at h
    · rename_i e; cases e
    · split at h
      · cases h
      · split at h
        · cases h
        · cases h
  · exact .inr h
theorem cut_abs {z : Int} (h1 : -9223372036854775808 ≤ z) (h2 : z ≤ 9223372036854775807) (h : z ≠ -9223372036854775808) : Nm.cut ((z.natAbs : Nat)) = ((z.natAbs : Nat) : Int) ∧ Nm.ovr ((z.natAbs : Nat)) = 0 :=
  ⟨Nm.cut_yes (Nm.inr_iff.2 (by omega)), Nm.ovr_yes (Nm.inr_iff.2 (by omega))⟩
theorem ovr_min : Nm.ovr (((-9223372036854775808 : Int).natAbs : Nat)) = 14 := by decide
theorem cut_min : Nm.cut (((-9223372036854775808 : Int).natAbs : Nat)) = 0 := by decide

/-- A row in block g that is being filled: its first k are f's; below g nothing has changed. -/
structure Rg (e : TypeId) (g : Nat) (W V : World) (n k : Nat) (f : Nat → Int) : Prop where
  bel : Below g W V
  row : ∃ zs, Ft e V g (some ⟨g, 0, none⟩) n n zs ∧ (∀ j, j < k → nth zs j = f j)
theorem Rg.start (e : TypeId) (W : World) (g n : Nat) (f : Nat → Int) (hg : W.heap.size = g) (hr : n * 8 ≤ 140737488351232) : Rg e g W (W.alloc (.cells (madeCells #[.int .i64 0] n) e)) n 0 f := by
  subst hg
  exact ⟨box_below W _, _, made_ftT e W n hr, fun j hj => by omega⟩
theorem Rg.lt {e : TypeId} {g : Nat} {W V : World} {n k : Nat} {f : Nat → Int} (h : Rg e g W V n k f) : g < V.heap.size := by
  obtain ⟨zs, hf, _⟩ := h.row
  rcases hf.own.2 with ⟨e1, h0⟩ | ⟨g', c, cur, e1, hB2, hg, r⟩
  · cases e1
  · cases e1
    exact (Array.getElem?_eq_some_iff.1 hg).1
theorem Rg.below {e : TypeId} {g : Nat} {W V V' : World} {n k : Nat} {f : Nat → Int} (h : Rg e g W V n k f) (b : Below V.heap.size V V') : Rg e g W V' n k f := by
  obtain ⟨zs, hf, hz⟩ := h.row
  exact ⟨h.bel.trans (b.mono (Nat.le_of_lt h.lt)), zs, hf.below b (Nat.le_refl _), hz⟩
theorem Rg.slot {e : TypeId} {g : Nat} {W V : World} {n k : Nat} {f : Nat → Int} (h : Rg e g W V n k f) {j : Nat} (hj : j < n) : ∃ u, V.cell? ⟨g, j, none⟩ = some u ∧ V.frozen? ⟨g, j, none⟩ = false := by
  obtain ⟨zs, hf, hz⟩ := h.row
  obtain ⟨b, off, e, hb, hc⟩ := hf.rd.cells (by omega)
  cases e
  have c := hc j hj
  rw [Nat.zero_add] at c
  rcases hf.own.2 with ⟨e1, h0⟩ | ⟨g', c, cur, e1, hB2, hg, r⟩
  · cases e1
  · cases e1
    exact ⟨_, c, frozen_of_row V g j _ _ hg⟩
theorem Rg.set {e : TypeId} {g : Nat} {W V : World} {n k : Nat} {f : Nat → Int} (h : Rg e g W V n k f) (hk : k < n) (u : Int) (hu : u = f k) (h1 : -9223372036854775808 ≤ u) (h2 : u ≤ 9223372036854775807) : Rg e g W (V.setCell ⟨g, k, none⟩ (.int .i64 u)) n (k + 1) f := by
  obtain ⟨zs, hf, hz⟩ := h.row
  refine ⟨h.bel.setCell (p := ⟨g, k, none⟩) (Nat.le_refl _) _, _, hf.setT k hk u h1 h2, fun j hj => ?_⟩
  rw [nth_setL (by rw [hf.rd.len]; exact hk)]
  split
  · rename_i e; rw [e, hu]
  · exact hz j (by omega)
theorem Rg.all {e : TypeId} {g : Nat} {W V : World} {n : Nat} {f : Nat → Int} (h : Rg e g W V n n f) (ys : List Int) (hl : ys.length = n) (hy : ∀ j, j < n → nth ys j = f j) : Ft e V g (some ⟨g, 0, none⟩) n n ys := by
  obtain ⟨zs, hf, hz⟩ := h.row
  have e : zs = ys := ext_nth (by rw [hf.rd.len, hl]) (fun k hk => by rw [hf.rd.len] at hk; rw [hz k hk, hy k hk])
  rw [← e]; exact hf
theorem ret17 {w : World} {e : Ending} {w' : World} (he : e = .returned (.tuple #[.agg #[.slice none 0 0, .slice none 0 0], .int .i64 17])) (b : Below w.heap.size w w') : AnsQ w (fun S A => S = [] ∧ A = []) 17 e w' :=
  ⟨none, 0, 0, none, 0, 0, [], [], he, Ft.nil _ _ _, Ft.nil _ _ _, ⟨rfl, rfl⟩, b⟩

set_option maxHeartbeats 4000000 in
set_option maxRecDepth 20000 in
theorem count_min (so ao : Option Addr) (sn sc an ac : Nat) (zs : List Int) (w : World) (g : Rd w ao an zs) (hn : an ≤ 4096) (hm : ∃ k, k < an ∧ nth zs k = -9223372036854775808) :
    Calls Try.prog 22 #[.agg #[.slice so sn sc, .slice ao an ac]] w fun e w' => AnsQ w (fun S A => S = [] ∧ A = []) 17 e w' := by
  have U0 := un_startQ w so sn sc ao an ac
  have hmk := fun (X : World) => run_make_row' (P := Try.prog) 22 3 (.int .i64 0) 8 Try.underlying22 infoI3 rfl .i64 .i64 an (by omega) (by omega) X
  have R0 := Rg.start 3 ((w.alloc (.cells #[.slice so sn sc, .slice ao an ac] 26)).alloc (.cells #[.slice none 0 0, .slice none 0 0] 26)) (w.heap.size + 1 + 1) an (fun j => (((nth zs j).natAbs : Nat) : Int)) (by simp) (by omega)
  obtain ⟨x0, x1, _, _⟩ := box2 U0.x
  have x2 := box2 (R0.bel.block w.heap.size (by omega) |>.trans U0.x)
  have x3 := x2.2.1
  have HL : Hid (zs.length = an) := g.len
  have HNUM : Hid (∀ k, k < an → -9223372036854775808 ≤ nth zs k ∧ nth zs k ≤ 9223372036854775807) := g.num
  have HM : Hid (∃ k, k < an ∧ nth zs k = -9223372036854775808) := hm
  have hcM := fun z (h : Nm.inr z = true) V => nmPres z h V
  clear hm x2
  go_enter Try.func22, Try.ntmps22
  go_wp2
  generalize (w.alloc (.cells #[.slice so sn sc, .slice ao an ac] 26)).alloc (.cells #[.slice none 0 0, .slice none 0 0] 26) = U at *
  clear hmk x0 x1 x3
  go_loopw [20] (fun i V => ∃ k : Nat, k ≤ an ∧ i = .int .i64 (k : Nat) ∧ Rg 3 (w.heap.size + 1 + 1) U V an k (fun j => (((nth zs j).natAbs : Nat) : Int)) ∧ ∀ j, j < k → nth zs j ≠ -9223372036854775808) (fun i _ => an - (intOf i).toNat)
  case atStart => exact ⟨0, Nat.zero_le _, rfl, R0, fun j hj => by omega⟩
  case round =>
    obtain ⟨k, hk, rfl, R, K⟩ := hrel
    clear R0
    have UV := U0.below R.bel (by omega)
    by_cases hlt : k < an
    · have t1 : decide ((k : Int) < (an : Int)) = true := by simp; omega
      have bk : (k : Int) < (an : Int) := by omega
      obtain ⟨b, off, rfl, hb, hc⟩ := (g.below UV.bel (Nat.le_refl _)).cells (by omega)
      have cc := hc k hlt
      have hnum := HNUM.out k hlt
      have hin : Nm.inr (nth zs k) = true := Nm.inr_iff.2 hnum
      have cM := hcM _ hin wr
      obtain ⟨u, c1, f1⟩ := R.slot hlt
      obtain ⟨r0, r1, r2, r3⟩ := box2 UV.r
      clear hc hin
      have HK : Hid (∀ j, j < k → nth zs j ≠ -9223372036854775808) := K
      clear K
      by_cases ez : nth zs k = -9223372036854775808
      · have eo : Nm.ovr (((nth zs k).natAbs : Nat)) = 14 := by rw [ez]; exact ovr_min
        have ec : Nm.cut (((nth zs k).natAbs : Nat)) = 0 := by rw [ez]; exact cut_min
        rw [eo, ec] at cM
        clear eo ec
        have t2 : ((14 : Int) != 0) = true := rfl
        generalize hx : nth zs k = x at *
        clear hx ez
        go_wp2_with (go_at_call 29; (with_reducible refine cM.mono ?_); rintro e w1 ⟨rfl, hw⟩; rw [hw]; clear hw w1)
        (try simp only [Exit.inBlock, Exit.then])
        refine bodyPost_ret (v := .tuple #[.agg #[.slice none 0 0, .slice none 0 0], .int .i64 17]) (by rw [results_cell_tmp rfl]; go_simp) rfl ?_
        exact ret17 rfl (below_set2 _ _ _ _ UV.bel (by omega) (Nat.le_refl _))
      · obtain ⟨ec, eo⟩ := cut_abs hnum.1 hnum.2 ez
        rw [ec, eo] at cM
        have R6 := R.set hlt (((nth zs k).natAbs : Nat) : Int) rfl (by omega) (by omega)
        have wz : IntKind.i64.wrap ((((nth zs k).natAbs : Nat) : Int)) = (((nth zs k).natAbs : Nat) : Int) := wrZ (by omega) (by omega)
        have HZ : Hid (nth zs k ≠ -9223372036854775808) := ez
        clear ec eo ez
        generalize hx : (nth zs k).natAbs = x at *
        generalize hy : nth zs k = y at *
        clear hx
        go_wp2_with (go_at_call 29; (with_reducible refine cM.mono ?_); rintro e w1 ⟨rfl, hw⟩; rw [hw]; clear hw w1)
        go_roundw
        case rel => exact ⟨k + 1, by omega, by go_num, R6, fun j hj => by rcases Nat.lt_succ_iff_lt_or_eq.1 hj with h | h; (· exact HK.out j h); rw [h, hy]; exact HZ.out⟩
        case measure => simp [intOf]; omega

    · obtain rfl : k = an := by omega
      have t1 : decide ((k : Int) < (k : Int)) = false := by simp
      obtain ⟨q, q1, q2⟩ := HM.out
      exact absurd q2 (K q q1)

set_option maxHeartbeats 4000000 in
set_option maxRecDepth 20000 in
theorem count_bad (so ao : Option Addr) (sn sc an ac : Nat) (zs : List Int) (w : World) (g : Rd w ao an zs) (hn : an ≤ 4096) (hm : ∀ k, k < an → nth zs k ≠ -9223372036854775808) (hF : mayF (absL zs) ≠ 0) :
    Calls Try.prog 22 #[.agg #[.slice so sn sc, .slice ao an ac]] w fun e w' => AnsQ w (fun S A => S = [] ∧ A = []) 17 e w' := by
  have U0 := un_startQ w so sn sc ao an ac
  have hmk := fun (X : World) => run_make_row' (P := Try.prog) 22 3 (.int .i64 0) 8 Try.underlying22 infoI3 rfl .i64 .i64 an (by omega) (by omega) X
  have R0 := Rg.start 3 ((w.alloc (.cells #[.slice so sn sc, .slice ao an ac] 26)).alloc (.cells #[.slice none 0 0, .slice none 0 0] 26)) (w.heap.size + 1 + 1) an (fun j => (((nth zs j).natAbs : Nat) : Int)) (by simp) (by omega)
  obtain ⟨x0, x1, _, _⟩ := box2 U0.x
  have x2 := box2 (R0.bel.block w.heap.size (by omega) |>.trans U0.x)
  have x3 := x2.2.1
  have HL : Hid (zs.length = an) := g.len
  have HNUM : Hid (∀ k, k < an → -9223372036854775808 ≤ nth zs k ∧ nth zs k ≤ 9223372036854775807) := g.num
  have HM : Hid (∀ k, k < an → nth zs k ≠ -9223372036854775808) := hm
  have hcM := fun z (h : Nm.inr z = true) V => nmPres z h V
  clear hm x2
  obtain hF17 : mayF (absL zs) = 17 := (abs_cases zs).resolve_left hF
  have HF : Hid (mayF (absL zs) = 17) := hF17
  clear hF hF17
  go_enter Try.func22, Try.ntmps22
  go_wp2
  generalize (w.alloc (.cells #[.slice so sn sc, .slice ao an ac] 26)).alloc (.cells #[.slice none 0 0, .slice none 0 0] 26) = U at *
  clear hmk x0 x1 x3
  go_loopw [20] (fun i V => ∃ k : Nat, k ≤ an ∧ i = .int .i64 (k : Nat) ∧ Rg 3 (w.heap.size + 1 + 1) U V an k (fun j => (((nth zs j).natAbs : Nat) : Int))) (fun i _ => an - (intOf i).toNat)
  case atStart => exact ⟨0, Nat.zero_le _, rfl, R0⟩
  case round =>
    obtain ⟨k, hk, rfl, R⟩ := hrel
    clear R0
    have UV := U0.below R.bel (by omega)
    by_cases hlt : k < an
    · have t1 : decide ((k : Int) < (an : Int)) = true := by simp; omega
      have bk : (k : Int) < (an : Int) := by omega
      obtain ⟨b, off, rfl, hb, hc⟩ := (g.below UV.bel (Nat.le_refl _)).cells (by omega)
      have cc := hc k hlt
      have hnum := HNUM.out k hlt
      have hin : Nm.inr (nth zs k) = true := Nm.inr_iff.2 hnum
      have cM := hcM _ hin wr
      obtain ⟨u, c1, f1⟩ := R.slot hlt
      obtain ⟨r0, r1, r2, r3⟩ := box2 UV.r
      clear hc hin
      have ez := HM.out k hlt
      obtain ⟨ec, eo⟩ := cut_abs hnum.1 hnum.2 ez
      rw [ec, eo] at cM
      have R6 := R.set hlt (((nth zs k).natAbs : Nat) : Int) rfl (by omega) (by omega)
      have wz : IntKind.i64.wrap ((((nth zs k).natAbs : Nat) : Int)) = (((nth zs k).natAbs : Nat) : Int) := wrZ (by omega) (by omega)
      have HZ : Hid (nth zs k ≠ -9223372036854775808) := ez
      clear ec eo ez
      generalize hx : (nth zs k).natAbs = x at *
      generalize hy : nth zs k = y at *
      clear hx hy
      go_wp2_with (go_at_call 29; (with_reducible refine cM.mono ?_); rintro e w1 ⟨rfl, hw⟩; rw [hw]; clear hw w1)
      go_roundw
      case rel => exact ⟨k + 1, by omega, by go_num, R6⟩
      case measure => simp [intOf]; omega

    · obtain rfl : k = an := by omega
      have t1 : decide ((k : Int) < (k : Int)) = false := by simp
      have FS := R.all (absL zs) (by rw [absL_len]; exact HL.out) (fun j hj => absL_nth (by rw [HL.out]; exact hj))
      have cF := may_any _ _ k _ _ FS.rd
      rw [HF.out] at cF
      obtain ⟨r0, r1, r2, r3⟩ := box2 UV.r
      have t2 : ((17 : Int) != 0) = true := rfl
      go_wp2_with (go_at_call 19; (with_reducible refine cF.mono ?_); rintro e w1 ⟨rfl, hw⟩; rw [hw]; clear hw w1)
      (try simp only [Exit.inBlock, Exit.then])
      refine bodyPost_ret (v := .tuple #[.agg #[.slice none 0 0, .slice none 0 0], .int .i64 17]) (by rw [results_cell_tmp rfl]; go_simp) rfl ?_
      exact ret17 rfl (below_set2 _ _ _ _ UV.bel (by omega) (Nat.le_refl _))

set_option maxHeartbeats 4000000 in
set_option maxRecDepth 20000 in
theorem count_ok (so ao : Option Addr) (sn sc an ac : Nat) (zs : List Int) (w : World) (g : Rd w ao an zs) (hn : an ≤ 4096) (hm : ∀ k, k < an → nth zs k ≠ -9223372036854775808) (hF : mayF (absL zs) = 0) :
    Calls Try.prog 22 #[.agg #[.slice so sn sc, .slice ao an ac]] w fun e w' => AnsQ w (fun S A => S = absL zs ∧ A = cnt zs an) 0 e w' := by
  have U0 := un_startQ w so sn sc ao an ac
  have hmk := fun (X : World) => run_make_row' (P := Try.prog) 22 3 (.int .i64 0) 8 Try.underlying22 infoI3 rfl .i64 .i64 an (by omega) (by omega) X
  have R0 := Rg.start 3 ((w.alloc (.cells #[.slice so sn sc, .slice ao an ac] 26)).alloc (.cells #[.slice none 0 0, .slice none 0 0] 26)) (w.heap.size + 1 + 1) an (fun j => (((nth zs j).natAbs : Nat) : Int)) (by simp) (by omega)
  obtain ⟨x0, x1, _, _⟩ := box2 U0.x
  have x2 := box2 (R0.bel.block w.heap.size (by omega) |>.trans U0.x)
  have x3 := x2.2.1
  have HL : Hid (zs.length = an) := g.len
  have HNUM : Hid (∀ k, k < an → -9223372036854775808 ≤ nth zs k ∧ nth zs k ≤ 9223372036854775807) := g.num
  have HM : Hid (∀ k, k < an → nth zs k ≠ -9223372036854775808) := hm
  have hcM := fun z (h : Nm.inr z = true) V => nmPres z h V
  clear hm x2
  have HF : Hid (mayF (absL zs) = 0) := hF
  clear hF
  go_enter Try.func22, Try.ntmps22
  go_wp2
  generalize (w.alloc (.cells #[.slice so sn sc, .slice ao an ac] 26)).alloc (.cells #[.slice none 0 0, .slice none 0 0] 26) = U at *
  clear hmk x0 x1 x3
  go_loopw [20] (fun i V => ∃ k : Nat, k ≤ an ∧ i = .int .i64 (k : Nat) ∧ Rg 3 (w.heap.size + 1 + 1) U V an k (fun j => (((nth zs j).natAbs : Nat) : Int))) (fun i _ => an - (intOf i).toNat)
  case atStart => exact ⟨0, Nat.zero_le _, rfl, R0⟩
  case round =>
    obtain ⟨k, hk, rfl, R⟩ := hrel
    clear R0
    have UV := U0.below R.bel (by omega)
    by_cases hlt : k < an
    · have t1 : decide ((k : Int) < (an : Int)) = true := by simp; omega
      have bk : (k : Int) < (an : Int) := by omega
      obtain ⟨b, off, rfl, hb, hc⟩ := (g.below UV.bel (Nat.le_refl _)).cells (by omega)
      have cc := hc k hlt
      have hnum := HNUM.out k hlt
      have hin : Nm.inr (nth zs k) = true := Nm.inr_iff.2 hnum
      have cM := hcM _ hin wr
      obtain ⟨u, c1, f1⟩ := R.slot hlt
      obtain ⟨r0, r1, r2, r3⟩ := box2 UV.r
      clear hc hin
      have ez := HM.out k hlt
      obtain ⟨ec, eo⟩ := cut_abs hnum.1 hnum.2 ez
      rw [ec, eo] at cM
      have R6 := R.set hlt (((nth zs k).natAbs : Nat) : Int) rfl (by omega) (by omega)
      have wz : IntKind.i64.wrap ((((nth zs k).natAbs : Nat) : Int)) = (((nth zs k).natAbs : Nat) : Int) := wrZ (by omega) (by omega)
      have HZ : Hid (nth zs k ≠ -9223372036854775808) := ez
      clear ec eo ez
      generalize hx : (nth zs k).natAbs = x at *
      generalize hy : nth zs k = y at *
      clear hx hy
      go_wp2_with (go_at_call 29; (with_reducible refine cM.mono ?_); rintro e w1 ⟨rfl, hw⟩; rw [hw]; clear hw w1)
      go_roundw
      case rel => exact ⟨k + 1, by omega, by go_num, R6⟩
      case measure => simp [intOf]; omega

    · obtain rfl : k = an := by omega
      have t1 : decide ((k : Int) < (k : Int)) = false := by simp
      have FS := R.all (absL zs) (by rw [absL_len]; exact HL.out) (fun j hj => absL_nth (by rw [HL.out]; exact hj))
      have cF := may_any _ _ k _ _ FS.rd
      rw [HF.out] at cF
      have sv := UV.sz
      obtain ⟨y0, y1, _, _⟩ := box2 UV.x
      have L0 : Ft 2 (wr.alloc (.cells #[.int .i64 0] 2)) wr.heap.size (some ⟨wr.heap.size, 0, none⟩) 1 1 [0] := ft_new 2 wr [0] (by simp) (by decide)
      have k0 := box_below wr (.cells #[.int .i64 0] 2)
      have FS0 := FS.below k0 (Nat.le_refl _)
      have UW := UV.below k0 sv
      have HZ4 : Hid (∀ j, j < k → cntN zs j ≤ 4096 ∧ (nth zs j).natAbs ≤ 4096 ∧ cntN zs j * (nth zs j).natAbs ≤ 4096 ∧ cntN zs (j + 1) = cntN zs j * (nth zs j).natAbs ∧ cnt zs (j + 1) = blw (nth zs j) (cnt zs j) ∧ ∀ p ∈ cnt zs j, 0 ≤ p ∧ p < ((cntN zs j : Nat) : Int)) := by
        intro j hj
        have hj' : j < zs.length := by rw [HL.out]; exact hj
        refine ⟨cntN_le HF.out (by omega), abs_le HF.out hj', ?_, cntN_succ hj', cnt_succ hj', cnt_mem zs j (by omega)⟩
        rw [← cntN_succ hj']
        exact cntN_le HF.out (by omega)
      obtain ⟨a0, a1, _, _⟩ := box2 UW.x
      generalize hWW : wr.alloc (.cells #[.int .i64 0] 2) = WW at *
      have sW : WW.heap.size = wr.heap.size + 1 := by rw [← hWW]; simp
      go_wp2_with (go_at_call 19; (with_reducible refine cF.mono ?_); rintro e w1 ⟨rfl, hw⟩; rw [hw]; clear hw w1)
      try simp only [hWW]
      generalize hgb : wr.heap.size = gb at *
      clear hWW cF y0 y1 R FS
      go_loopw [10, 48] (fun s i V => ∃ (j : Nat) (oo : Option Addr) (oc : Nat), j ≤ k ∧ i = .int .i64 (j : Nat) ∧ s = .slice oo (cntN zs j) oc ∧ Ft 2 V gb oo (cntN zs j) oc (cnt zs j) ∧ Below WW.heap.size WW V) (fun _ i _ => k - (intOf i).toNat)
      case atStart => exact ⟨0, _, _, Nat.zero_le _, rfl, rfl, L0, Below.refl _ _⟩
      case round =>
        obtain ⟨j, oo, oc, hj, rfl, rfl, fo, Bj⟩ := hrel
        have UX := UW.below Bj (by omega)
        by_cases hlt : j < k
        · have t2 : decide ((j : Int) < (k : Int)) = true := by simp; omega
          have bj : (j : Int) < (k : Int) := by omega
          obtain ⟨b, off, rfl, hb, hc⟩ := (g.below UX.bel (Nat.le_refl _)).cells (by omega)
          have cc := hc j hlt
          obtain ⟨z1, z2, z3, z4, z5, z6⟩ := HZ4.out j hlt
          have cB := below_any oo (cntN zs j) oc (nth zs j) (cnt zs j) wr fo.rd (by omega) (by omega) z3 z6 z1
          rw [← z4, ← z5] at cB
          have sx := Bj.size
          clear hc z1 z2 z3 z4 z5 z6
          generalize nth zs j = y at *
          go_wp2_with (go_at_call 30; (with_reducible refine cB.mono ?_); rintro e w2 ⟨o2, c2, rfl, f2, b2⟩)
          go_roundw
          case rel => exact ⟨j + 1, o2, c2, by omega, by go_num, rfl, f2.mono (by omega), Bj.trans (b2.mono sx)⟩
          case measure => simp [intOf]; omega
        · obtain rfl : j = k := by omega
          have t2 : decide ((j : Int) < (j : Int)) = false := by simp
          obtain ⟨r0, r1, r2, r3⟩ := box2 UX.r
          have FS2 := FS0.below Bj (Nat.le_refl _)
          go_wp2
          (try simp only [Exit.inBlock, Exit.then])
          refine bodyPost_ret (v := .tuple #[.agg #[.slice (some ⟨w.heap.size + 1 + 1, 0, none⟩) j j, .slice oo (cntN zs j) oc], .int .i64 0]) (by rw [results_cell_tmp rfl]; go_simp) rfl ?_
          exact ⟨_, _, _, _, _, _, _, _, rfl, (ft_setQ FS2 (by omega) _ _).mono (by omega), (ft_setQ fo (by omega) _ _).mono (by omega), ⟨rfl, rfl⟩, below_set2 _ _ _ _ UX.bel (by omega) (Nat.le_refl _)⟩
end Go.Proofs.Ytjnlkdeiccllgaa
