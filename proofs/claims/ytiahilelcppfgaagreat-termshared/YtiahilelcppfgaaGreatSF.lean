
/- weigh and Light: an answer is told, nothing is written. -/

import Derived.Test.YtiahilelcppfgaaGreatSI

namespace Go.Proofs.YtiahilelcppfgaaGreat

open Go.RowKit

set_option linter.unusedVariables false

set_option linter.unusedSimpArgs false in
set_option maxRecDepth 100000 in
set_option maxHeartbeats 4000000 in
theorem copy_no (d : Nat) (x : Tr (d + 1)) (c0 c1 c2 c3 c4 c5 : Value) (w : World) (h : Tv w (d + 1) x [c0, c1, c2, c3, c4, c5]) (ho : szO (d + 1) x = false) :
    Calls Tryz.prog 14 #[.agg #[c0, c1, c2, c3, c4, c5]] w fun e w' => e = .returned (.tuple #[.agg #[.int .i64 0, .string ⟨#[]⟩, .int .i64 0, .slice none 0 0, .slice none 0 0, .slice none 0 0], .int .i64 2]) ∧ Below w.heap.size w w' := by
  obtain ⟨k1, t1, n1, so, sn, sc, ao, an, ac, uo, un, uc, ev⟩ := h.form
  injection ev with ev0 ev
  injection ev with ev1 ev
  injection ev with ev2 ev
  injection ev with ev3 ev
  injection ev with ev4 ev
  injection ev with ev5 ev
  subst ev0 ev1 ev2 ev3 ev4 ev5
  have k0 := box_below w (.cells #[.int .i64 k1, .string t1, .int .i64 n1, .slice so sn sc, .slice ao an ac, .slice uo un uc] 31)
  have kb := box_below (w.alloc (.cells #[.int .i64 k1, .string t1, .int .i64 n1, .slice so sn sc, .slice ao an ac, .slice uo un uc] 31)) (.cells #[.int .i64 0, .string ⟨#[]⟩, .int .i64 0, .slice none 0 0, .slice none 0 0, .slice none 0 0] 31)
  have kk := k0.trans (kb.mono k0.size)
  have R0 := (kb.block w.heap.size (by simp)).trans (allocNew w (.cells #[.int .i64 k1, .string t1, .int .i64 n1, .slice so sn sc, .slice ao an ac, .slice uo un uc] 31))
  have R1 := allocNew (w.alloc (.cells #[.int .i64 k1, .string t1, .int .i64 n1, .slice so sn sc, .slice ao an ac, .slice uo un uc] 31)) (.cells #[.int .i64 0, .string ⟨#[]⟩, .int .i64 0, .slice none 0 0, .slice none 0 0, .slice none 0 0] 31)
  rw [World.size_alloc] at R1 kb
  obtain ⟨y0, y1, y2, y3, y4, y5⟩ := box6 R0
  have htg := tooGreat_any (d + 1) x _ _ _ _ _ _ _ (Tv.below kk (Nat.le_refl _) _ _ _ h)
  rw [ho] at htg
  clear h ho k0
  go_enter Tryz.func14, Tryz.ntmps14
  go_wp2_with
    (go_at_call 34; (with_reducible refine htg.mono ?_); rintro e w1 ⟨rfl, b1⟩; have bb := kk.trans (b1.mono kk.size); have R2 := (b1.block (w.heap.size + 1) (by simp)).trans R1
     obtain ⟨⟨⟨a0, a1⟩, a2, ⟨a3, a4⟩, a5, ⟨a6, a7⟩, a8, ⟨a9, a10⟩, a11, ⟨a12, a13⟩, a14, ⟨a15, a16⟩, a17⟩, ⟨f0, f1, f2, f3, f4, f5⟩, gr⟩ := box6_store w1 (w.heap.size + 1) _ _ _ _ _ _ (.int .i64 0) (.string ⟨#[]⟩) (.int .i64 0) (.slice none 0 0) (.slice none 0 0) (.slice none 0 0) _ R2
     have HG : Hid (_) := gr
     clear gr)
  (try simp only [Exit.inBlock, Exit.then])
  refine bodyPost_ret (v := .tuple #[.agg #[.int .i64 0, .string ⟨#[]⟩, .int .i64 0, .slice none 0 0, .slice none 0 0, .slice none 0 0], .int .i64 2]) (by rw [results_cell_tmp rfl]; go_simp) rfl ?_
  exact ⟨rfl, below_of_grown bb HG.out (Nat.le_succ _)⟩
set_option linter.unusedSimpArgs false in
set_option maxRecDepth 100000 in
set_option maxHeartbeats 4000000 in
theorem rcopy_no (d : Nat) (x : Tr (d + 1)) (c0 c1 c2 c3 c4 c5 : Value) (w : World) (h : Tv w (d + 1) x [c0, c1, c2, c3, c4, c5]) (ho : szO (d + 1) x = false) :
    Calls Tryz.prog 33 #[.agg #[c0, c1, c2, c3, c4, c5]] w fun e w' => e = .returned (.tuple #[.agg #[.int .i64 0, .string ⟨#[]⟩, .int .i64 0, .slice none 0 0, .slice none 0 0, .slice none 0 0], .int .i64 2]) ∧ Below w.heap.size w w' := by
  obtain ⟨k1, t1, n1, so, sn, sc, ao, an, ac, uo, un, uc, ev⟩ := h.form
  injection ev with ev0 ev
  injection ev with ev1 ev
  injection ev with ev2 ev
  injection ev with ev3 ev
  injection ev with ev4 ev
  injection ev with ev5 ev
  subst ev0 ev1 ev2 ev3 ev4 ev5
  have k0 := box_below w (.cells #[.int .i64 k1, .string t1, .int .i64 n1, .slice so sn sc, .slice ao an ac, .slice uo un uc] 31)
  have kb := box_below (w.alloc (.cells #[.int .i64 k1, .string t1, .int .i64 n1, .slice so sn sc, .slice ao an ac, .slice uo un uc] 31)) (.cells #[.int .i64 0, .string ⟨#[]⟩, .int .i64 0, .slice none 0 0, .slice none 0 0, .slice none 0 0] 31)
  have kk := k0.trans (kb.mono k0.size)
  have R0 := (kb.block w.heap.size (by simp)).trans (allocNew w (.cells #[.int .i64 k1, .string t1, .int .i64 n1, .slice so sn sc, .slice ao an ac, .slice uo un uc] 31))
  have R1 := allocNew (w.alloc (.cells #[.int .i64 k1, .string t1, .int .i64 n1, .slice so sn sc, .slice ao an ac, .slice uo un uc] 31)) (.cells #[.int .i64 0, .string ⟨#[]⟩, .int .i64 0, .slice none 0 0, .slice none 0 0, .slice none 0 0] 31)
  rw [World.size_alloc] at R1 kb
  obtain ⟨y0, y1, y2, y3, y4, y5⟩ := box6 R0
  have hr := row_any d x _ _ _ _ _ _ w _ h kk
  rw [(row_size d x).2 ho] at hr
  dsimp only [RowP] at hr
  clear h ho k0
  go_enter Tryz.func33, Tryz.ntmps33
  go_wp2_with
    (go_at_call 49; (with_reducible refine hr.mono ?_); rintro e w1 ⟨rfl, b1⟩; have bb := kk.trans (b1.mono kk.size); have R2 := (b1.block (w.heap.size + 1) (by simp)).trans R1
     obtain ⟨⟨⟨a0, a1⟩, a2, ⟨a3, a4⟩, a5, ⟨a6, a7⟩, a8, ⟨a9, a10⟩, a11, ⟨a12, a13⟩, a14, ⟨a15, a16⟩, a17⟩, ⟨f0, f1, f2, f3, f4, f5⟩, gr⟩ := box6_store w1 (w.heap.size + 1) _ _ _ _ _ _ (.int .i64 0) (.string ⟨#[]⟩) (.int .i64 0) (.slice none 0 0) (.slice none 0 0) (.slice none 0 0) _ R2
     have HG : Hid (_) := gr
     clear gr)
  (try simp only [Exit.inBlock, Exit.then])
  refine bodyPost_ret (v := .tuple #[.agg #[.int .i64 0, .string ⟨#[]⟩, .int .i64 0, .slice none 0 0, .slice none 0 0, .slice none 0 0], .int .i64 2]) (by rw [results_cell_tmp rfl]; go_simp) rfl ?_
  exact ⟨rfl, below_of_grown bb HG.out (Nat.le_succ _)⟩
set_option linter.unusedSimpArgs false in
set_option maxRecDepth 100000 in
set_option maxHeartbeats 4000000 in
theorem rcopy_ok (d : Nat) (x : Tr (d + 1)) (c0 c1 c2 c3 c4 c5 : Value) (w : World) (h : Tv w (d + 1) x [c0, c1, c2, c3, c4, c5]) (ho : szO (d + 1) x = true) :
    Calls Tryz.prog 33 #[.agg #[c0, c1, c2, c3, c4, c5]] w fun e w' => ∃ v0 v1 v2 v3 v4 v5 : Value, e = .returned (.tuple #[.agg #[v0, v1, v2, v3, v4, v5], .int .i64 0]) ∧ Tv w' (d + 1) x [v0, v1, v2, v3, v4, v5] ∧ Below w.heap.size w w' := by
  obtain ⟨k1, t1, n1, so, sn, sc, ao, an, ac, uo, un, uc, ev⟩ := h.form
  injection ev with ev0 ev
  injection ev with ev1 ev
  injection ev with ev2 ev
  injection ev with ev3 ev
  injection ev with ev4 ev
  injection ev with ev5 ev
  subst ev0 ev1 ev2 ev3 ev4 ev5
  have k0 := box_below w (.cells #[.int .i64 k1, .string t1, .int .i64 n1, .slice so sn sc, .slice ao an ac, .slice uo un uc] 31)
  have kb := box_below (w.alloc (.cells #[.int .i64 k1, .string t1, .int .i64 n1, .slice so sn sc, .slice ao an ac, .slice uo un uc] 31)) (.cells #[.int .i64 0, .string ⟨#[]⟩, .int .i64 0, .slice none 0 0, .slice none 0 0, .slice none 0 0] 31)
  have kk := k0.trans (kb.mono k0.size)
  have R0 := (kb.block w.heap.size (by simp)).trans (allocNew w (.cells #[.int .i64 k1, .string t1, .int .i64 n1, .slice so sn sc, .slice ao an ac, .slice uo un uc] 31))
  have R1 := allocNew (w.alloc (.cells #[.int .i64 k1, .string t1, .int .i64 n1, .slice so sn sc, .slice ao an ac, .slice uo un uc] 31)) (.cells #[.int .i64 0, .string ⟨#[]⟩, .int .i64 0, .slice none 0 0, .slice none 0 0, .slice none 0 0] 31)
  rw [World.size_alloc] at R1 kb
  obtain ⟨y0, y1, y2, y3, y4, y5⟩ := box6 R0
  have hr := row_any d x _ _ _ _ _ _ w _ h kk
  obtain ⟨m, em, _⟩ := (row_size d x).1 ho
  rw [em] at hr
  dsimp only [RowP] at hr
  have hown := fun V (b : Below w.heap.size w V) => rown_any d x _ _ _ _ _ _ V (Tv.below b (Nat.le_refl _) _ _ _ h)
  clear h ho k0 em
  go_enter Tryz.func33, Tryz.ntmps33
  go_wp2_with (first
    | (go_at_call 49; (with_reducible refine hr.mono ?_); rintro e w1 ⟨o, c, vals, rfl, N⟩; have b1 := N.bel; have bb := kk.trans (b1.mono kk.size); have R2 := (b1.block (w.heap.size + 1) (by simp)).trans R1; obtain ⟨z0, z1, z2, z3, z4, z5⟩ := box6 ((b1.block w.heap.size (by simp; omega)).trans R0); clear N)
    | (go_at_call 53; (with_reducible refine (hown _ bb).mono ?_); rintro e w2 ⟨v0, v1, v2, v3, v4, v5, rfl, ow, b2⟩
       have tq := ow.tq
       obtain ⟨k3, t3, n3, xo3, xn3, xc3, zo3, zn3, zc3, uo3, un3, uc3, ev⟩ := tq.tv.form
       injection ev with ev0 ev
       injection ev with ev1 ev
       injection ev with ev2 ev
       injection ev with ev3 ev
       injection ev with ev4 ev
       injection ev with ev5 ev
       subst ev0 ev1 ev2 ev3 ev4 ev5
       have kx := box_below w2 (.cells #[.int .i64 k3, .string t3, .int .i64 n3, .slice xo3 xn3 xc3, .slice zo3 zn3 zc3, .slice uo3 un3 uc3] 31)
       obtain ⟨g0, g1, g2, g3, g4, g5⟩ := box6 (allocNew w2 (.cells #[.int .i64 k3, .string t3, .int .i64 n3, .slice xo3 xn3 xc3, .slice zo3 zn3 zc3, .slice uo3 un3 uc3] 31))
       have R3 := (kx.block (w.heap.size + 1) (Nat.lt_of_lt_of_le (Array.getElem?_eq_some_iff.1 R2).1 b2.size)).trans ((b2.block (w.heap.size + 1) (Array.getElem?_eq_some_iff.1 R2).1).trans R2)
       obtain ⟨⟨⟨a0, a1⟩, a2, ⟨a3, a4⟩, a5, ⟨a6, a7⟩, a8, ⟨a9, a10⟩, a11, ⟨a12, a13⟩, a14, ⟨a15, a16⟩, a17⟩, ⟨f0, f1, f2, f3, f4, f5⟩, gr⟩ := box6_store (w2.alloc (.cells #[.int .i64 k3, .string t3, .int .i64 n3, .slice xo3 xn3 xc3, .slice zo3 zn3 zc3, .slice uo3 un3 uc3] 31)) (w.heap.size + 1) _ _ _ _ _ _ (.int .i64 k3) (.string t3) (.int .i64 n3) (.slice xo3 xn3 xc3) (.slice zo3 zn3 zc3) (.slice uo3 un3 uc3) _ R3
       have HG : Hid (_) := gr
       clear gr))
  (try simp only [Exit.inBlock, Exit.then])
  refine bodyPost_ret (v := .tuple #[.agg #[.int .i64 k3, .string t3, .int .i64 n3, .slice xo3 xn3 xc3, .slice zo3 zn3 zc3, .slice uo3 un3 uc3], .int .i64 0]) (by rw [results_cell_tmp rfl]; go_simp) rfl ?_
  have gr := HG.out
  have bs := (Array.getElem?_eq_some_iff.1 R2).1
  have bx := (bb.trans (b2.mono bb.size)).trans (kx.mono (Nat.le_trans bb.size b2.size))
  refine ⟨_, _, _, _, _, _, rfl, ?_, below_of_grown bx gr (Nat.le_succ _)⟩
  have q := (tq.keep (V := w2.alloc (.cells #[.int .i64 k3, .string t3, .int .i64 n3, .slice xo3 xn3 xc3, .slice zo3 zn3 zc3, .slice uo3 un3 uc3] 31)) (Kb.of_below kx fun b _ hl => hl)).keep (Kb.of_grown gr fun b hb e => by injection e with e; omega)
  exact q.tv
end Go.Proofs.YtiahilelcppfgaaGreat

namespace Go.Proofs.YtiahilelcppfgaaGreat

open Go.RowKit

set_option linter.unusedVariables false

def WgP (w : World) (e : Ending) (w' : World) : Prop := ∃ r : Int, e = .returned (.int .i64 r) ∧ (-300000000000000 ≤ r ∧ r ≤ 524288) ∧ Below w.heap.size w w'
set_option linter.unusedSimpArgs false in
set_option maxRecDepth 100000 in
set_option maxHeartbeats 4000000 in
theorem weigh_one (d : Nat) (ks : List (Tr d)) (k n : Int) (t : ByteArray) (so ao ko : Option Addr) (sn sc an ac L kc : Nat) (dn lf : Int) (w0 w : World) (hw : Below w0.heap.size w0 w) (hL : ks.length = L) (hs : sn * 8 ≤ 140737488351232) (ha : an * 8 ≤ 140737488351232) (hk : Kq (Tv w0 d) w0 ko ks) (ht : t.size ≤ 140737488355328) (hd : -1 ≤ dn ∧ dn ≤ 255) (hl : 0 ≤ lf ∧ lf ≤ 524288)
    (ih : ∀ (y : Tr d) (c0 c1 c2 c3 c4 c5 : Value) (dn lf : Int) (V : World), Tv w0 d y [c0, c1, c2, c3, c4, c5] → Below w0.heap.size w0 V → (-1 ≤ dn ∧ dn ≤ 255) → (0 ≤ lf ∧ lf ≤ 524288) → Calls Tryz.prog 43 #[.agg #[c0, c1, c2, c3, c4, c5], .int .i64 dn, .int .i64 lf] V fun e w' => WgP V e w') :
    Calls Tryz.prog 43 #[.agg #[.int .i64 k, .string t, .int .i64 n, .slice so sn sc, .slice ao an ac, .slice ko L kc], .int .i64 dn, .int .i64 lf] w fun e w' => WgP w e w' := by
  have k0 := box_below w (.cells #[.int .i64 k, .string t, .int .i64 n, .slice so sn sc, .slice ao an ac, .slice ko L kc] 31)
  have r0 := allocNew w (.cells #[.int .i64 k, .string t, .int .i64 n, .slice so sn sc, .slice ao an ac, .slice ko L kc] 31)
  obtain ⟨q0, q1, q2, q3, q4, q5⟩ := box6 r0
  have w1 : IntKind.i64.wrap (lf - 1) = lf - 1 := wrT (by omega) (by omega)
  have w2 : IntKind.i64.wrap (lf - 1 - (t.size : Int)) = lf - 1 - (t.size : Int) := wrT (by omega) (by omega)
  have w3 : IntKind.i64.wrap (lf - 1 - (t.size : Int) - (sn : Int)) = lf - 1 - (t.size : Int) - (sn : Int) := wrT (by omega) (by omega)
  have w4 : IntKind.i64.wrap (lf - 1 - (t.size : Int) - (sn : Int) - (an : Int)) = lf - 1 - (t.size : Int) - (sn : Int) - (an : Int) := wrT (by omega) (by omega)
  obtain ⟨l1, hl1⟩ : ∃ l1, l1 = lf - 1 - (t.size : Int) - (sn : Int) - (an : Int) := ⟨_, rfl⟩
  have HQ : Hid (l1 = lf - 1 - (t.size : Int) - (sn : Int) - (an : Int)) := hl1
  have HL1 : Hid (-300000000000000 ≤ l1 ∧ l1 ≤ 524288) := by show _ ∧ _; omega
  clear hl1
  by_cases hdn : dn < 0
  · have e1 : decide (dn < 0) = true := by simp; omega
    clear hdn
    go_enter Tryz.func43, Tryz.ntmps43
    go_wp2
    go_ret
    exact ⟨-1, rfl, ⟨by omega, by omega⟩, k0⟩
  have e1 : decide (dn < 0) = false := by simp; omega
  have wd : IntKind.i64.wrap (dn - 1) = dn - 1 := wrT (by omega) (by omega)
  have HD : Hid (0 ≤ dn ∧ dn ≤ 255) := by show _ ∧ _; omega
  have hrm := hk.room
  rw [hL] at hrm
  have HK : Hid (Kq (Tv w0 d) w0 ko ks) := hk
  have HIH : Hid (_) := ih
  clear hdn hd hk ih
  go_enter Tryz.func43, Tryz.ntmps43
  go_upto_region 4 with fail
  clear w1 w2 w3 w4 e1 q0 q1 q2 q3 q4 q5
  generalize w.alloc (.cells #[.int .i64 k, .string t, .int .i64 n, .slice so sn sc, .slice ao an ac, .slice ko L kc] 31) = W1 at *
  go_wp2
  go_loopw [2, 7] (fun lv iv V => ∃ (i : Nat) (l : Int), lv = .int .i64 l ∧ iv = .int .i64 (i : Nat) ∧ i ≤ L ∧ Hid (-300000000000000 ≤ l ∧ l ≤ 524288) ∧ Below w.heap.size w V ∧ V.heap[w.heap.size]? = some (.cells #[.int .i64 k, .string t, .int .i64 n, .slice so sn sc, .slice ao an ac, .slice ko L kc] 31 (0, 0))) (fun _ iv _ => L - (intOf iv).toNat)
  case atStart => exact ⟨0, l1, by rw [HQ.out], rfl, Nat.zero_le _, HL1, k0, r0⟩
  case round =>
    obtain ⟨i, l, rfl, rfl, hi, HL, B, R⟩ := hrel
    clear k0 r0 HL1
    obtain ⟨q0, q1, q2, q3, q4, q5⟩ := box6 R
    by_cases hlt : i < L
    · have t3 : decide ((i : Int) < (L : Int)) = true := by simp; omega
      have bi : (i : Int) < (L : Int) := by omega
      by_cases hneg : 0 ≤ l
      · have t4 : decide (0 ≤ l) = true := by simp; omega
        obtain ⟨y, hy⟩ : ∃ y, ks[i]? = some y := ⟨ks[i]'(by omega), by simp⟩
        obtain ⟨b, off, rfl, hb, hc⟩ := HK.out.cells (by omega)
        obtain ⟨c0, c1, c2, c3, c4, c5, hv, x0, x1, x2, x3, x4, x5⟩ := hc i y hy
        obtain ⟨k1, t1, n1, xo, xn, xc, zo, zn, zc, uo, un, uc, ev⟩ := hv.form
        injection ev with ev0 ev
        injection ev with ev1 ev
        injection ev with ev2 ev
        injection ev with ev3 ev
        injection ev with ev4 ev
        injection ev with ev5 ev
        subst ev0 ev1 ev2 ev3 ev4 ev5
        have bV := hw.trans (B.mono hw.size)
        replace x0 := (bV.cell (p := ⟨b, off + i * 6, none⟩) hb).trans x0
        replace x1 := (bV.cell (p := ⟨b, off + i * 6 + 1, none⟩) hb).trans x1
        replace x2 := (bV.cell (p := ⟨b, off + i * 6 + 2, none⟩) hb).trans x2
        replace x3 := (bV.cell (p := ⟨b, off + i * 6 + 3, none⟩) hb).trans x3
        replace x4 := (bV.cell (p := ⟨b, off + i * 6 + 4, none⟩) hb).trans x4
        replace x5 := (bV.cell (p := ⟨b, off + i * 6 + 5, none⟩) hb).trans x5
        have hcall := HIH.out y _ _ _ _ _ _ (dn - 1) l wr hv bV (by have := HD.out; omega) ⟨hneg, HL.out.2⟩
        clear hc hv hneg
        go_wp2_with (go_at_call 43; (with_reducible refine hcall.mono ?_); rintro e w5 ⟨r, rfl, hr, b5⟩; have HR : Hid (-300000000000000 ≤ r ∧ r ≤ 524288) := hr; clear hr)
        go_roundw
        case rel => exact ⟨i + 1, r, rfl, by go_num, by omega, HR, B.trans (b5.mono B.size), (b5.block _ (Array.getElem?_eq_some_iff.1 R).1).trans R⟩
        case measure => simp [intOf]; omega
      · have t4 : decide (0 ≤ l) = false := by simp; omega
        clear hneg
        go_wp2
        go_ret
        exact ⟨l, rfl, HL.out, B⟩
    · obtain rfl : i = L := by omega
      have t3 : decide ((i : Int) < (i : Int)) = false := by simp
      go_wp2
      go_ret
      exact ⟨l, rfl, HL.out, B⟩
theorem weigh_any : ∀ (d : Nat) (x : Tr d) (c0 c1 c2 c3 c4 c5 : Value) (dn lf : Int) (w0 w : World), Tv w0 d x [c0, c1, c2, c3, c4, c5] → Below w0.heap.size w0 w → (-1 ≤ dn ∧ dn ≤ 255) → (0 ≤ lf ∧ lf ≤ 524288) → Calls Tryz.prog 43 #[.agg #[c0, c1, c2, c3, c4, c5], .int .i64 dn, .int .i64 lf] w fun e w' => WgP w e w'
  | 0, _, _, _, _, _, _, _, _, _, _, _, h, _, _, _ => h.elim
  | d + 1, x, c0, c1, c2, c3, c4, c5, dn, lf, w0, w, h, hw, hd, hl => by
    obtain ⟨⟨so, sn, sc, ao, an, ac, ko, kc, ev, h1, h2, h3, h4, h5, h6⟩, hk, hn, ht⟩ := h
    injection ev with ev0 ev
    injection ev with ev1 ev
    injection ev with ev2 ev
    injection ev with ev3 ev
    injection ev with ev4 ev
    injection ev with ev5 ev
    subst ev0 ev1 ev2 ev3 ev4 ev5
    exact weigh_one d x.ks _ _ _ so ao ko sn sc an ac x.ks.length kc dn lf w0 w hw rfl h1.room h3.room h5 ht hd hl (fun y c0 c1 c2 c3 c4 c5 dn lf V hy hV hd hl => weigh_any d y c0 c1 c2 c3 c4 c5 dn lf w0 V hy hV hd hl)
set_option linter.unusedSimpArgs false in
set_option maxHeartbeats 4000000 in
theorem light_any (d : Nat) (x : Tr d) (c0 c1 c2 c3 c4 c5 : Value) (w : World) (h : Tv w d x [c0, c1, c2, c3, c4, c5]) :
    Calls Tryz.prog 19 #[.agg #[c0, c1, c2, c3, c4, c5]] w fun e w' => ∃ b, e = .returned (.bool b) ∧ Below w.heap.size w w' := by
  obtain ⟨k, t, n, so, sn, sc, ao, an, ac, ko, L, kc, ev⟩ := h.form
  injection ev with ev0 ev
  injection ev with ev1 ev
  injection ev with ev2 ev
  injection ev with ev3 ev
  injection ev with ev4 ev
  injection ev with ev5 ev
  subst ev0 ev1 ev2 ev3 ev4 ev5
  have k0 := box_below w (.cells #[.int .i64 k, .string t, .int .i64 n, .slice so sn sc, .slice ao an ac, .slice ko L kc] 31)
  have r0 := allocNew w (.cells #[.int .i64 k, .string t, .int .i64 n, .slice so sn sc, .slice ao an ac, .slice ko L kc] 31)
  obtain ⟨q0, q1, q2, q3, q4, q5⟩ := box6 r0
  have hsz := tsize_any d x _ _ _ _ _ _ _ (Tv.below k0 (Nat.le_refl _) _ _ _ h)
  have hwg := fun V (b : Below w.heap.size w V) => weigh_any d x _ _ _ _ _ _ 255 524288 w V h b ⟨by omega, by omega⟩ ⟨by omega, by omega⟩
  generalize szN d x = N at *
  generalize szD d x = D at *
  clear h
  by_cases hN : N ≤ 4096
  · have t1 : decide ((N : Int) ≤ 4096) = true := by simp; omega
    clear hN
    go_enter Tryz.func19, Tryz.ntmps19
    go_wp2_with (first
      | (go_at_call 13; (with_reducible refine hsz.mono ?_); rintro e w1 ⟨rfl, b1⟩; have B1 := k0.trans (b1.mono k0.size); obtain ⟨p0, p1, p2, p3, p4, p5⟩ := box6 ((b1.block w.heap.size (by simp)).trans r0))
      | (go_at_call 43; (with_reducible refine (hwg _ B1).mono ?_); rintro e w2 ⟨r, rfl, _, b2⟩))
    go_ret
    exact ⟨_, rfl, B1.trans (b2.mono B1.size)⟩
  · have t1 : decide ((N : Int) ≤ 4096) = false := by simp; omega
    clear hN
    go_enter Tryz.func19, Tryz.ntmps19
    go_wp2_with (go_at_call 13; (with_reducible refine hsz.mono ?_); rintro e w1 ⟨rfl, b1⟩)
    go_ret
    exact ⟨_, rfl, k0.trans (b1.mono k0.size)⟩
end Go.Proofs.YtiahilelcppfgaaGreat
