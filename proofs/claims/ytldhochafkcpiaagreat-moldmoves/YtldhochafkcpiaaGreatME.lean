
/- Contract of package mold: gather. -/

import Derived.Test.YtldhochafkcpiaaGreatMD
import Derived.Test.YtldhochafkcpiaaGreatC8


namespace Go.Proofs.YtldhochafkcpiaaGreat

open Go.RowKit

set_option linter.unusedVariables false

theorem below_set4 {a W : World} {B b : Nat} (o1 o2 o3 o4 : Nat) (v1 v2 v3 v4 : Value) (h : Below B a W) (hb : B ≤ b) : Below B a ((((W.setCell ⟨b, o1, none⟩ v1).setCell ⟨b, o2, none⟩ v2).setCell ⟨b, o3, none⟩ v3).setCell ⟨b, o4, none⟩ v4) :=
  (((h.setCell (p := ⟨b, o1, none⟩) hb v1).setCell (p := ⟨b, o2, none⟩) hb v2).setCell (p := ⟨b, o3, none⟩) hb v3).setCell (p := ⟨b, o4, none⟩) hb v4

set_option maxHeartbeats 4000000 in
set_option maxRecDepth 20000 in
theorem gather_any (so ao xo : Option Addr) (sn sc an ac n xc : Nat) (at' : List Int) (axs : List Ax) (w : World) (g : Rd w ao an at') (hx : AxL w xo n axs) (hn : n ≤ 5000) (hl : ∀ k, k < n → (nax axs k).len ≤ 1000000)
    (hp : mayF (lens axs) = 0 → ∀ p, p ∈ pls axs → p = -1 ∨ (0 ≤ p ∧ p < an)) :
    Calls Tryz.prog 68 #[.agg #[.slice so sn sc, .slice ao an ac], .slice xo n xc] w fun e w' => ∃ o1 n1 c1 o2 n2 c2, e = .returned (.tuple #[.agg #[.slice o1 n1 c1, .slice o2 n2 c2], .int .i64 (mayF (lens axs))]) ∧ Ft 3 w' w.heap.size o1 n1 c1 (filS (lens axs)) ∧ Ft 2 w' w.heap.size o2 n2 c2 (gthS at' axs) ∧ Below w.heap.size w w' := by
  have G0 := ga_start w so sn sc ao an ac
  have hmk := run_make_row' (P := Tryz.prog) 23 3 (.int .i64 0) 8 Tryz.underlying23 infoI3 rfl .i64 .i64 n (by omega) (by omega)
  have R0 := RwT.start 3 ((w.alloc (.cells #[.slice so sn sc, .slice ao an ac] 25)).alloc (.cells #[.slice none 0 0, .slice none 0 0] 25)) n (fun j => ((nax axs j).len : Int)) (by omega)
  have HXL : Hid (axs.length = n) := hx.1
  have HL : Hid (∀ k, k < n → (nax axs k).len ≤ 1000000) := hl
  have HP : Hid (mayF (lens axs) = 0 → ∀ p, p ∈ pls axs → p = -1 ∨ (0 ≤ p ∧ p < an)) := hp
  have HX : Hid (AxL w xo n axs) := hx
  have HW : Hid (∀ k, k < axs.length → (nax axs k).wid ≤ 4096 ∧ (nax axs k).stp ≤ 4096) := fun k hk => by
    rw [hx.1] at hk
    obtain ⟨gx, _, ha⟩ := hx.2 (by omega)
    obtain ⟨_, _, _, _, _, _, _, _, _, h1, h2⟩ := ha.at hk
    exact ⟨h1, h2⟩
  clear hl hp hx
  go_enter Tryz.func68, Tryz.ntmps68
  go_wp2
  generalize hW0 : (w.alloc (.cells #[.slice so sn sc, .slice ao an ac] 25)).alloc (.cells #[.slice none 0 0, .slice none 0 0] 25) = W0 at *
  have hs0 : W0.heap.size = w.heap.size + 1 + 1 := by rw [← hW0]; simp
  go_loopw [21] (fun i V => ∃ k : Nat, k ≤ n ∧ i = .int .i64 (k : Nat) ∧ RwT 3 W0 V n k (fun j => ((nax axs j).len : Int))) (fun i _ => n - (intOf i).toNat)
  case atStart => exact ⟨0, Nat.zero_le _, rfl, R0⟩
  case round =>
    obtain ⟨k, hk, rfl, R⟩ := hrel
    clear R0 hmk
    by_cases hlt : k < n
    · obtain ⟨gx, rfl, hax⟩ := (HX.out.below (G0.bel.trans (R.bel.mono (by omega)))).2 (by omega)
      obtain ⟨K, cs, bs, x0, x1, x2, x3, _, _, _, _⟩ := hax.at hlt
      have R2 := R.below (box_below wr (.cells #[.int .i64 ((nax axs k).len : Nat), .int .i64 ((nax axs k).wid : Nat), .int .i64 ((nax axs k).stp : Nat), .func (.func K) #[] cs] 89))
      obtain ⟨u, y0, y1⟩ := R2.slot k hlt
      have R3 := R2.set hlt (by omega) (by have := HL.out k hlt; omega)
      rw [hs0] at y0 y1 R3
      clear R2
      have hlk := HL.out k hlt
      go_wp2
      go_roundw
      case rel => exact ⟨k + 1, by omega, by go_num, R3⟩
      case measure => simp [intOf]; omega
    · obtain rfl : n = k := by omega
      have HV : Hid (Ft 3 wr W0.heap.size (some ⟨W0.heap.size, 0, none⟩) n n (lens axs)) := R.all (lens axs) (by rw [lens_len]; exact HXL.out) (fun j hj => lens_nth (by rw [HXL.out]; exact hj))
      have hm := may_any _ n n (lens axs) wr HV.out.rd
      rw [hs0] at hm
      have GV := G0.below R.bel (by omega)
      have hsz : W0.heap.size ≤ wr.heap.size := R.bel.size
      clear R hk hlt
      by_cases h0 : mayF (lens axs) = 0
      · rw [h0] at hm
        have HM0 : Hid (mayF (lens axs) = 0) := h0
        have HPL : Hid (∀ k, k ≤ n → (pls (axs.take k)).length ≤ 4096) := fun k hk => by
          have e := pls_len (axs.take k)
          have := pr_small h0 k (by rw [lens_len, HXL.out]; exact hk)
          rw [lens_take] at e; omega
        have HLE : Hid (∀ k, k < n → (nax axs k).len ≤ 4096) := fun k hk => by
          have := nth_small h0 (k := k) (by rw [lens_len, HXL.out]; exact hk)
          rw [lens_nth (by rw [HXL.out]; exact hk)] at this
          omega
        have HFS : Hid (filS (lens axs) = lens axs ∧ gthS at' axs = gth at' axs) := ⟨if_pos h0, if_pos h0⟩
        have HPP : Hid (∀ p, p ∈ pls axs → p = -1 ∨ (0 ≤ p ∧ p < an)) := HP.out h0
        have HIN : Hid (∀ k, k ≤ n → inPl 1099511627776 (pls (axs.take k))) := fun k hk => by
          have hn8 : n ≤ 8 := by rw [← HXL.out, ← lens_len]; exact (mayF_zero h0).2.1
          exact (pls_bd HW.out k (by rw [HXL.out]; exact hk)).mono (by omega)
        clear h0 HP HL
        go_wp2_with (go_at_call 22; (with_reducible refine hm.mono ?_); rintro e W1 ⟨rfl, rfl⟩)
        clear hm
        have fz := ft_new 3 W1 [0] (by simp) (num1 (by omega) (by omega))
        have bz := box_below W1 (.cells #[.int .i64 0] 3)
        go_loopw [10, 41] (fun s i V => ∃ (k : Nat) (po : Option Addr) (pc : Nat), k ≤ n ∧ i = .int .i64 (k : Nat) ∧ s = .slice po (pls (axs.take k)).length pc ∧ Ft 3 V W1.heap.size po (pls (axs.take k)).length pc (pls (axs.take k)) ∧ Below W1.heap.size W1 V) (fun _ i _ => n - (intOf i).toNat)
        case atStart => exact ⟨0, _, _, Nat.zero_le _, rfl, rfl, fz, bz⟩
        case round =>
          obtain ⟨k, po, pc, hk, rfl, rfl, fp, bp⟩ := hrel
          clear fz bz
          have bw := GV.bel.trans (bp.mono (by omega))
          by_cases hlt : k < n
          · obtain ⟨gx, rfl, hax⟩ := (HX.out.below bw).2 (by omega)
            obtain ⟨K, cs, bs, x0, x1, x2, x3, hway, hbs, hwd, hst⟩ := hax.at hlt
            have bx := box_below wr (.cells #[.int .i64 ((nax axs k).len : Nat), .int .i64 ((nax axs k).wid : Nat), .int .i64 ((nax axs k).stp : Nat), .func (.func K) #[] cs] 89)
            have hpk : (pls (axs.take (k + 1))).length = (pls (axs.take k)).length * (nax axs k).len := by rw [pls_take (by rw [HXL.out]; exact hlt), blw_len]
            have hcall := below_any po (pls (axs.take k)).length pc (nax axs k).len (nax axs k).wid (nax axs k).stp K cs (pls (axs.take k)) (nax axs k).f _ (fp.rd.below bx (Nat.le_refl _)) (HLE.out k hlt) (by rw [← hpk]; exact HPL.out (k + 1) (by omega)) hwd hst (HIN.out k hk) bs (fun b m => Nat.lt_of_lt_of_le (hbs b m) bx.size) (hway.keep fun b m => bx.block b (hbs b m))
            rw [← hpk] at hcall
            have HPT : Hid (pls (axs.take (k + 1)) = blw ⟨(nax axs k).len, (nax axs k).wid, (nax axs k).stp, (nax axs k).f⟩ (pls (axs.take k))) := pls_take (by rw [HXL.out]; exact hlt)
            clear hpk hway hwd hst hax
            go_wp2_with (go_at_call 94; (with_reducible refine hcall.mono ?_); rintro e w3 ⟨oo, oc, rfl, fo, bo⟩)
            go_roundw
            case rel =>
              rw [← HPT.out] at fo
              exact ⟨k + 1, oo, oc, by omega, by go_num, rfl, fo.mono (by have := bp.size; simp; omega), bp.trans ((bx.trans (bo.mono bx.size)).mono bp.size)⟩
            case measure => simp [intOf]; omega
          · obtain rfl : n = k := by omega
            rw [List.take_of_length_le (by rw [HXL.out]; exact Nat.le_refl _)] at fp
            have HM : Hid ((pls axs).length ≤ 4096) := by
              have := HPL.out n (Nat.le_refl _)
              rwa [List.take_of_length_le (by rw [HXL.out]; exact Nat.le_refl _)] at this
            rw [List.take_of_length_le (show axs.length ≤ n by rw [HXL.out]; exact Nat.le_refl _)]
            have hml := HM.out
            have HPS : Hid ((pls axs).length = (pls axs).length) := rfl
            have G2 := GV.below bp (by omega)
            have ga2 := g.below bw (Nat.le_refl _)
            have hmk2 := run_make_row' (P := Tryz.prog) 22 2 (.int .i64 0) 8 Tryz.underlying22 infoL3 rfl .i64 .i64 (pls axs).length (by omega) (by omega)
            have R0 := RwT.start 2 wr (pls axs).length (fun j => gAt at' (nth (pls axs) j)) (by omega)
            generalize (pls axs).length = m at *
            clear HPL HLE HIN HX
            go_wp2
            generalize hW2 : wr = W2 at *
            clear hW2 wr hmk2
            go_loopw [54] (fun i V => ∃ j : Nat, j ≤ m ∧ i = .int .i64 (j : Nat) ∧ RwT 2 W2 V m j (fun j => gAt at' (nth (pls axs) j))) (fun i _ => m - (intOf i).toNat)
            case atStart => exact ⟨0, Nat.zero_le _, rfl, R0⟩
            case round =>
              obtain ⟨j, hj, rfl, R⟩ := hrel
              clear R0
              by_cases hlt2 : j < m
              · obtain ⟨b, off, rfl, hb, hc⟩ := (fp.rd.below R.bel (Nat.le_refl _)).cells (by omega)
                have c1 := hc j hlt2
                have hpq := HPP.out _ (nth_mem (by rw [fp.rd.len]; exact hlt2) : nth (pls axs) j ∈ pls axs)
                clear hc
                have G3 := G2.below R.bel (by have := bp.size; omega)
                have q1 := G3.c1
                by_cases hq : nth (pls axs) j = -1
                · have hz : gAt at' (nth (pls axs) j) = 0 := by unfold gAt; rw [if_pos hq]
                  have R2 := R.skip hlt2 hz
                  rw [hq] at c1
                  clear hq hz hpq
                  go_wp2
                  go_roundw
                  case rel => exact ⟨j + 1, by omega, by go_num, R2⟩
                  case measure => simp [intOf]; omega
                · obtain ⟨Q, hQ, hQn⟩ : ∃ Q : Nat, nth (pls axs) j = (Q : Int) ∧ Q < an := ⟨(nth (pls axs) j).toNat, by omega, by omega⟩
                  have hz : gAt at' (nth (pls axs) j) = nth at' Q := by unfold gAt; rw [if_neg hq, hQ]; rfl
                  obtain ⟨b2, off2, rfl, hb2, hc2⟩ := (ga2.below R.bel (Nat.le_refl _)).cells (by omega)
                  have c2 := hc2 Q hQn
                  obtain ⟨u, y0, y1⟩ := R.slot j hlt2
                  have nb := ga2.num Q hQn
                  have R2 := R.set hlt2 (by rw [hz]; exact nb.1) (by rw [hz]; exact nb.2)
                  rw [hz] at R2
                  rw [hQ] at c1
                  have hne : ((Q : Int) != -1) = true := by simp
                  clear hq hz hpq hQ hc2 nb
                  go_wp2
                  go_roundw
                  case rel => exact ⟨j + 1, by omega, by go_num, R2⟩
                  case measure => simp [intOf]; omega
              · obtain rfl : m = j := by omega
                have HG : Hid (Ft 2 wr W2.heap.size (some ⟨W2.heap.size, 0, none⟩) m m (gth at' axs)) := R.all (gth at' axs) (by unfold gth; rw [List.length_map]; exact fp.rd.len) (fun j hj => by
                  unfold gth
                  have hl : j < (pls axs).length := by rw [fp.rd.len]; exact hj
                  rw [nth_lt (by simpa using hl), nth_lt hl]; simp)
                have G3 := G2.below R.bel (by have := bp.size; omega)
                have HSH : Hid (Ft 3 wr W0.heap.size (some ⟨W0.heap.size, 0, none⟩) n n (lens axs)) := (HV.out.below bp (Nat.le_refl _)).below R.bel (Nat.le_refl _)
                obtain ⟨z0, z1, z2, z3⟩ := box2 G3.r
                have hs2 := bp.size
                go_wp2
                (try simp only [Exit.inBlock, Exit.then])
                refine bodyPost_ret (v := .tuple #[.agg #[.slice (some ⟨w.heap.size + 1 + 1, 0, none⟩) n n, .slice (some ⟨W2.heap.size, 0, none⟩) m m], .int .i64 0]) (by rw [results_cell_tmp rfl]; go_simp) rfl ?_
                rw [HFS.out.1, HFS.out.2, HM0.out]
                refine ⟨_, n, n, _, m, m, rfl, ?_, ?_, below_set2 _ _ _ _ G3.bel (by omega) (Nat.le_refl _)⟩
                · rw [← hs0]
                  exact (ft_set (w := w) HSH.out (by omega) _ _).mono (by omega)
                · exact (ft_set (w := w) HG.out (by omega) _ _).mono (by omega)
      · have hne : (mayF (lens axs) != 0) = true := by simpa using h0
        obtain ⟨z0, z1, z2, z3⟩ := box2 GV.r
        have HF : Hid (filS (lens axs) = [] ∧ gthS at' axs = []) := ⟨if_neg h0, if_neg h0⟩
        clear h0
        go_wp2_with (go_at_call 22; (with_reducible refine hm.mono ?_); rintro e w2 ⟨rfl, rfl⟩)
        (try simp only [Exit.inBlock, Exit.then])
        refine bodyPost_ret (v := .tuple #[.agg #[.slice none 0 0, .slice none 0 0], .int .i64 (mayF (lens axs))]) (by rw [results_cell_tmp rfl]; go_simp) rfl ?_
        rw [HF.out.1, HF.out.2]
        exact ⟨none, 0, 0, none, 0, 0, rfl, Ft.nil _ _ _, Ft.nil _ _ _, below_set2 _ _ _ _ GV.bel (by omega) (Nat.le_refl _)⟩
end Go.Proofs.YtldhochafkcpiaaGreat
