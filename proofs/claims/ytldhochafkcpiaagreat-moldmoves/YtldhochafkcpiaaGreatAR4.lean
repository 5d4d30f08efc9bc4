
/- Contract of mold.arrange, where an axis is not there, or is named twice. -/

import Derived.Test.YtldhochafkcpiaaGreatAR3
import Derived.Deep.Cut


namespace Go.Proofs.YtldhochafkcpiaaGreat

open Go.RowKit

set_option linter.unusedVariables false

set_option maxRecDepth 20000 in
set_option maxHeartbeats 8000000 in
theorem arrange_out (xso xo so ao : Option Addr) (xsn xsc xn xc sn sc an ac : Nat) (xs sy ay : List Int) (w : World) (hx : Rd w xo xn xs) (hsy : Rd w so sn sy) (hay : Rd w ao an ay) (hn : sn ≤ 8) (h0 : ∀ k, k < sn → 0 ≤ nth sy k ∧ nth sy k ≤ 4096) (h1 : ∀ k, k ≤ sn → 0 ≤ pr (sy.drop k) ∧ pr (sy.drop k) ≤ 4096) (m : Nat) (hmx : m < xn) (hm8 : m ≤ 8) (G : ∀ k, k < m → -(sn : Int) ≤ nth xs k ∧ nth xs k < (sn : Int) ∧ (sen sn xs k).contains (nrm sn (nth xs k)) = false) (hbad : nth xs m < -(sn : Int) ∨ (sn : Int) ≤ nth xs m) :
    Calls Tryz.prog 31 #[.agg #[.slice xso xsn xsc, .slice xo xn xc], .agg #[.slice so sn sc, .slice ao an ac]] w fun e w' => e = .returned (.tuple #[.agg #[.slice none 0 0, .slice none 0 0], .int .i64 13]) ∧ Below w.heap.size w w' := by
  have k1 := box_below w (.cells #[.slice xso xsn xsc, .slice xo xn xc] 25)
  have k2 := k1.trans ((box_below (w.alloc (.cells #[.slice xso xsn xsc, .slice xo xn xc] 25)) (.cells #[.slice so sn sc, .slice ao an ac] 25)).mono k1.size)
  have k3 := k2.trans ((box_below ((w.alloc (.cells #[.slice xso xsn xsc, .slice xo xn xc] 25)).alloc (.cells #[.slice so sn sc, .slice ao an ac] 25)) (.cells #[.slice none 0 0, .slice none 0 0] 25)).mono k2.size)
  obtain ⟨W1, hW1⟩ : ∃ W, W = w.alloc (.cells #[.slice xso xsn xsc, .slice xo xn xc] 25) := ⟨_, rfl⟩
  obtain ⟨W2, hW2⟩ : ∃ W, W = W1.alloc (.cells #[.slice so sn sc, .slice ao an ac] 25) := ⟨_, rfl⟩
  have s1 : W1.heap.size = w.heap.size + 1 := by rw [hW1]; simp
  have s2 : W2.heap.size = w.heap.size + 2 := by rw [hW2]; simp; omega
  have d3 := box_below W2 (.cells #[.slice none 0 0, .slice none 0 0] 25)
  have d2 := (hW2 ▸ box_below W1 (.cells #[.slice so sn sc, .slice ao an ac] 25) : Below W1.heap.size W1 W2).trans (d3.mono (by omega))
  have n3 := allocNew W2 (.cells #[.slice none 0 0, .slice none 0 0] 25)
  have n2 := (d3.block W1.heap.size (by omega)).trans (hW2 ▸ allocNew W1 (.cells #[.slice so sn sc, .slice ao an ac] 25))
  have n1 := (d2.block w.heap.size (by omega)).trans (hW1 ▸ allocNew w (.cells #[.slice xso xsn xsc, .slice xo xn xc] 25))
  rw [s2] at n3
  rw [s1] at n2
  have s3 : (W2.alloc (.cells #[.slice none 0 0, .slice none 0 0] 25)).heap.size = w.heap.size + 3 := by simp; omega
  subst hW2
  subst hW1
  clear k1 k2 d3 d2 s1 s2
  have hax := axesOf_any so sn sc sy _ (hsy.below k3 (Nat.le_refl _)) (by omega) h0 h1
  have hmk := fun W => run_make_row' (P := Tryz.prog) 32 4 (.bool false) 1 Tryz.underlying32 (by kernel_rfl) rfl .i64 .i64 sn (by omega) (by omega) W
  obtain ⟨x0, x1, _, _⟩ := box2 n1
  obtain ⟨y0, y1, _, _⟩ := box2 n2
  have HG : Hid (∀ k, k < m → -(sn : Int) ≤ nth xs k ∧ nth xs k < (sn : Int) ∧ (sen sn xs k).contains (nrm sn (nth xs k)) = false) := G
  have HL : Hid (xs.length = xn) := hx.len
  have HX : Hid ((axsOf sy).length = sn) := (axsOf_len sy).trans hsy.len
  clear G h0 h1
  go_enter Tryz.func31, Tryz.ntmps31
  go_upto_region 4 with (first
    | (go_at_call 66; (with_reducible refine hax.mono ?_); rintro e w1 ⟨rfl, A1, b1⟩
       have b4 := k3.trans (b1.mono k3.size)
       have z1 := b1.size
       have m3 := (b1.block (w.heap.size + 2) (by omega)).trans n3
       have m2 := (b1.block (w.heap.size + 1) (by omega)).trans n2
       have m1 := (b1.block w.heap.size (by omega)).trans n1
       clear x0 x1 y0 y1 n1 n2 n3 hax b1))
  have z2 : w.heap.size + 3 ≤ w1.heap.size := by omega
  have NM := nmd_made w1 sn
  have bN := box_below w1 (.cells (madeCells #[.bool false] sn) 4)
  rw [s3] at A1
  generalize w1.alloc (.cells (madeCells #[.bool false] sn) 4) = WN at *
  have A2 := A1.below bN
  obtain ⟨x0, x1, _, _⟩ := box2 ((bN.block w.heap.size (by omega)).trans m1)
  have X1 : Axo WN w1.heap.size (.slice none 0 0) ((sen sn xs 0).map (nax (axsOf sy))) := Axo.nil _ _
  have N1 : Nmd WN w1.heap.size sn (fun i => (sen sn xs 0).contains i) := NM
  have glt : w.heap.size + 3 < w1.heap.size := A1.lt
  have ng1 : ¬ w.heap.size + 3 = w1.heap.size := by omega
  have ng2 : ¬ w1.heap.size = w.heap.size + 3 := by omega
  clear s3
  generalize hgx : axsOf sy = axs at *
  have HGX : Hid (axsOf sy = axs) := hgx
  clear hgx
  go_wp2
  go_loopw [24, 8] (fun a b V => ∃ k : Nat, k ≤ m ∧ a = .int .i64 (k : Nat) ∧ Axo V w1.heap.size b ((sen sn xs k).map (nax axs)) ∧ Nmd V w1.heap.size sn (fun i => (sen sn xs k).contains i) ∧ Below w1.heap.size w1 V) (fun a _ _ => xn - (intOf a).toNat)
  case atStart => exact ⟨0, Nat.zero_le _, rfl, X1, N1, bN⟩
  case round =>
    obtain ⟨k, hk, rfl, X, NN, bel⟩ := hrel
    clear X1 N1 NM bN A2 x0 x1
    have bw := b4.trans (bel.mono b4.size)
    have hxV := hx.below bw (Nat.le_refl _)
    by_cases hlm : k < m
    · obtain ⟨g1, g2, g3⟩ := HG.out k hlm
      have hlt : k < xn := by omega
      obtain ⟨b, off, rfl, hb, hc⟩ := hxV.cells (by omega)
      have cz := hc k hlt
      have t1 : decide ((k : Int) < (xn : Int)) = true := by simp; omega
      have bk : (k : Int) < (xn : Int) := by omega
      have wk : IntKind.i64.wrap ((k : Int) + 1) = (k : Int) + 1 := wrapIn _ (by omega)
      have wn : IntKind.i64.wrap (-(sn : Int)) = -(sn : Int) := wrapIn _ (by omega)
      clear hc
      have hni : nrm sn (nth xs k) < sn := by unfold nrm; split <;> omega
      have hnz : (nth xs k < 0 ∧ nth xs k + (sn : Int) = (nrm sn (nth xs k) : Nat)) ∨ (0 ≤ nth xs k ∧ nth xs k = (nrm sn (nth xs k) : Nat)) := by unfold nrm; split <;> omega
      have es : sen sn xs (k + 1) = sen sn xs k ++ [nrm sn (nth xs k)] := sen_succ (by rw [HL.out]; exact hlt)
      have sl : (sen sn xs k).length ≤ 8 := by rw [sen_len (by rw [HL.out]; omega)]; omega
      have HES : Hid (sen sn xs (k + 1) = sen sn xs k ++ [nrm sn (nth xs k)]) := es
      clear es
      generalize hi : nrm sn (nth xs k) = i at *
      clear hi
      generalize nth xs k = z at *
      obtain ⟨cur, u1, u2, u3⟩ := A1.row
      obtain ⟨K, cs, bs, a1, a2, a3, a4, a5, a6, a7, a8⟩ := u3 i hni
      have hv1 := (bel.block (w.heap.size + 3) glt).trans u1
      obtain ⟨p1, p2⟩ := NN.cell hni
      rw [g3] at p1
      have bi : (i : Int) < (sn : Int) := by omega
      have lB : w1.heap.size ≤ wr.heap.size := bel.size
      have nrow : ∃ cu, wr.heap[w1.heap.size]? = some (.cells cu 4 (0, 0)) := by obtain ⟨cu, h, _⟩ := NN.row; exact ⟨_, h⟩
      obtain ⟨cu, hcu⟩ := nrow
      have X2 := X.setKind hcu (by decide) (Nat.le_refl _) (i := i) (.bool true)
      have N2 := NN.set hni (P' := fun j => (sen sn xs (k + 1)).contains j) (fun j hj => by
        rw [HES.out]
        by_cases e : j = i
        · rw [if_pos e, e]; simp
        · rw [if_neg e]; simp [e])
      have bel2 := bel.setCell (p := ⟨w1.heap.size, i, none⟩) (Nat.le_refl _) (.bool true)
      have hv2 := (heap_setCell_other wr ⟨w1.heap.size, i, none⟩ (w.heap.size + 3) (.bool true) ng1).trans hv1
      have kb : ∀ b, b ∈ bs → (∃ v, (wr.setCell ⟨w1.heap.size, i, none⟩ (.bool true)).cell? ⟨b, 0, none⟩ = some v) ∧ b < w1.heap.size := fun b m => by
        obtain ⟨⟨v, hv⟩, _⟩ := a6 b m
        have lt := World.block_lt_of_cell? w1 _ hv
        exact ⟨⟨v, (bel2.cell (p := ⟨b, 0, none⟩) lt).trans hv⟩, lt⟩
      have wy := a5.keep (W1 := wr.setCell ⟨w1.heap.size, i, none⟩ (.bool true)) (fun b m => bel2.block b (kb b m).2)
      rcases hnz with ⟨hneg, hsum⟩ | ⟨hpos, hz⟩
      · have t2 : decide (z < -(sn : Int)) = false := by simp; omega
        have t3 : decide ((sn : Int) ≤ z) = false := by simp; omega
        have t4 : decide (z < 0) = true := by simp; omega
        have wz : IntKind.i64.wrap (z + (sn : Int)) = (i : Int) := by rw [hsum]; exact wrapIn _ (by omega)
        clear hsum g1 g2 hneg
        go_upto_region 15 with fail
        clear p1 p2 hv1 hcu X NN cz u1
        generalize wr.setCell ⟨w1.heap.size, i, none⟩ (.bool true) = Vs at X2 N2 bel2 hv2 kb wy ⊢
        have r0 := (cell_of_row Vs (w.heap.size + 3) (i * 4) _ _ (0, 0) hv2).trans (by simpa using a1)
        have r1 := (cell_of_row Vs (w.heap.size + 3) (i * 4 + 1) _ _ (0, 0) hv2).trans (by simpa using a2)
        have r2 := (cell_of_row Vs (w.heap.size + 3) (i * 4 + 2) _ _ (0, 0) hv2).trans (by simpa using a3)
        have r3 := (cell_of_row Vs (w.heap.size + 3) (i * 4 + 3) _ _ (0, 0) hv2).trans (by simpa using a4)
        have kl := box_below Vs (.cells #[.int .i64 ((nax axs i).len : Nat), .int .i64 ((nax axs i).wid : Nat), .int .i64 ((nax axs i).stp : Nat), .func (.func K) #[] cs] 89)
        have nl := allocNew Vs (.cells #[.int .i64 ((nax axs i).len : Nat), .int .i64 ((nax axs i).wid : Nat), .int .i64 ((nax axs i).stp : Nat), .func (.func K) #[] cs] 89)
        have X3 := X2.alloc (.cells #[.int .i64 ((nax axs i).len : Nat), .int .i64 ((nax axs i).wid : Nat), .int .i64 ((nax axs i).stp : Nat), .func (.func K) #[] cs] 89)
        have N3 := N2.below kl
        have bel3 := bel2.trans (kl.mono bel2.size)
        go_wp2_with (at_builtin; refine wpList_axis rfl _ _ rfl w1.heap.size Vs.heap.size _ _ (nax axs i) K cs bs rfl rfl X3 nl (wy.keep (fun b m => kl.block b (Nat.lt_of_lt_of_le (kb b m).2 bel2.size))) (fun b m => ⟨(kb b m).1.imp fun v hv => (kl.cell (p := ⟨b, 0, none⟩) (Nat.lt_of_lt_of_le (kb b m).2 bel2.size)).trans hv, (kb b m).2⟩) a7 a8 (by rw [List.length_map]; omega) bel3.size ?_; intro xo' c' w' X4 gr)
        have ne := X3.nebool N3
        go_roundw
        case rel =>
          refine ⟨k + 1, by omega, by go_num, ?_, N3.kept (gr.block _ (Array.getElem?_eq_some_iff.1 N3.row.choose_spec.1).1 (fun e => ne e.symm)), bel3.grown gr bel3.size (fun q hq => ?_)⟩
          · rw [List.length_map] at X4; rw [HES.out, List.map_append]; exact X4
          · obtain ⟨ds, d1, _⟩ := X3.row
            exact (d1.lt q hq).1
        case measure => simp [intOf]; omega
      · have t2 : decide ((i : Int) < -(sn : Int)) = false := by simp <;> omega
        have t3 : decide ((sn : Int) ≤ (i : Int)) = false := by simp <;> omega
        have t4 : decide ((i : Int) < 0) = false := by simp
        have t3' : decide (sn ≤ i) = false := by simp; omega
        subst hz
        clear g1 g2 hpos
        go_upto_region 15 with fail
        clear p1 p2 hv1 hcu X NN cz u1
        generalize wr.setCell ⟨w1.heap.size, i, none⟩ (.bool true) = Vs at X2 N2 bel2 hv2 kb wy ⊢
        have r0 := (cell_of_row Vs (w.heap.size + 3) (i * 4) _ _ (0, 0) hv2).trans (by simpa using a1)
        have r1 := (cell_of_row Vs (w.heap.size + 3) (i * 4 + 1) _ _ (0, 0) hv2).trans (by simpa using a2)
        have r2 := (cell_of_row Vs (w.heap.size + 3) (i * 4 + 2) _ _ (0, 0) hv2).trans (by simpa using a3)
        have r3 := (cell_of_row Vs (w.heap.size + 3) (i * 4 + 3) _ _ (0, 0) hv2).trans (by simpa using a4)
        have kl := box_below Vs (.cells #[.int .i64 ((nax axs i).len : Nat), .int .i64 ((nax axs i).wid : Nat), .int .i64 ((nax axs i).stp : Nat), .func (.func K) #[] cs] 89)
        have nl := allocNew Vs (.cells #[.int .i64 ((nax axs i).len : Nat), .int .i64 ((nax axs i).wid : Nat), .int .i64 ((nax axs i).stp : Nat), .func (.func K) #[] cs] 89)
        have X3 := X2.alloc (.cells #[.int .i64 ((nax axs i).len : Nat), .int .i64 ((nax axs i).wid : Nat), .int .i64 ((nax axs i).stp : Nat), .func (.func K) #[] cs] 89)
        have N3 := N2.below kl
        have bel3 := bel2.trans (kl.mono bel2.size)
        go_wp2_with (at_builtin; refine wpList_axis rfl _ _ rfl w1.heap.size Vs.heap.size _ _ (nax axs i) K cs bs rfl rfl X3 nl (wy.keep (fun b m => kl.block b (Nat.lt_of_lt_of_le (kb b m).2 bel2.size))) (fun b m => ⟨(kb b m).1.imp fun v hv => (kl.cell (p := ⟨b, 0, none⟩) (Nat.lt_of_lt_of_le (kb b m).2 bel2.size)).trans hv, (kb b m).2⟩) a7 a8 (by rw [List.length_map]; omega) bel3.size ?_; intro xo' c' w' X4 gr)
        have ne := X3.nebool N3
        go_roundw
        case rel =>
          refine ⟨k + 1, by omega, by go_num, ?_, N3.kept (gr.block _ (Array.getElem?_eq_some_iff.1 N3.row.choose_spec.1).1 (fun e => ne e.symm)), bel3.grown gr bel3.size (fun q hq => ?_)⟩
          · rw [List.length_map] at X4; rw [HES.out, List.map_append]; exact X4
          · obtain ⟨ds, d1, _⟩ := X3.row
            exact (d1.lt q hq).1
        case measure => simp [intOf]; omega
    · obtain rfl : k = m := by omega
      obtain ⟨b, off, rfl, hb, hc⟩ := hxV.cells (by omega)
      have cz := hc k hmx
      have t1 : decide ((k : Int) < (xn : Int)) = true := by simp; omega
      have bk : (k : Int) < (xn : Int) := by omega
      have wn : IntKind.i64.wrap (-(sn : Int)) = -(sn : Int) := wrapIn _ (by omega)
      obtain ⟨z0, z1, z2, z3⟩ := box2 ((bel.block (w.heap.size + 2) (by omega)).trans m3)
      clear hc X NN A1
      by_cases hlo : nth xs k < -(sn : Int)
      · have t2 : decide (nth xs k < -(sn : Int)) = true := by simp; omega
        generalize nth xs k = z at *
        go_wp2
        (try simp only [Exit.inBlock, Exit.then])
        refine bodyPost_ret (v := .tuple #[.agg #[.slice none 0 0, .slice none 0 0], .int .i64 13]) (by rw [results_cell_tmp rfl]; go_simp) rfl ?_
        exact ⟨rfl, below_set2 _ _ _ _ bw (by omega) (Nat.le_refl _)⟩
      · have t2 : decide (nth xs k < -(sn : Int)) = false := by simp; omega
        have t3 : decide ((sn : Int) ≤ nth xs k) = true := by simp; omega
        generalize nth xs k = z at *
        go_wp2
        (try simp only [Exit.inBlock, Exit.then])
        refine bodyPost_ret (v := .tuple #[.agg #[.slice none 0 0, .slice none 0 0], .int .i64 13]) (by rw [results_cell_tmp rfl]; go_simp) rfl ?_
        exact ⟨rfl, below_set2 _ _ _ _ bw (by omega) (Nat.le_refl _)⟩

set_option maxRecDepth 20000 in
set_option maxHeartbeats 8000000 in
theorem arrange_twice (xso xo so ao : Option Addr) (xsn xsc xn xc sn sc an ac : Nat) (xs sy ay : List Int) (w : World) (hx : Rd w xo xn xs) (hsy : Rd w so sn sy) (hay : Rd w ao an ay) (hn : sn ≤ 8) (h0 : ∀ k, k < sn → 0 ≤ nth sy k ∧ nth sy k ≤ 4096) (h1 : ∀ k, k ≤ sn → 0 ≤ pr (sy.drop k) ∧ pr (sy.drop k) ≤ 4096) (m : Nat) (hmx : m < xn) (hm8 : m ≤ 8) (G : ∀ k, k < m → -(sn : Int) ≤ nth xs k ∧ nth xs k < (sn : Int) ∧ (sen sn xs k).contains (nrm sn (nth xs k)) = false) (hb1 : -(sn : Int) ≤ nth xs m) (hb2 : nth xs m < (sn : Int)) (hb3 : (sen sn xs m).contains (nrm sn (nth xs m)) = true) :
    Calls Tryz.prog 31 #[.agg #[.slice xso xsn xsc, .slice xo xn xc], .agg #[.slice so sn sc, .slice ao an ac]] w fun e w' => e = .returned (.tuple #[.agg #[.slice none 0 0, .slice none 0 0], .int .i64 10]) ∧ Below w.heap.size w w' := by
  have k1 := box_below w (.cells #[.slice xso xsn xsc, .slice xo xn xc] 25)
  have k2 := k1.trans ((box_below (w.alloc (.cells #[.slice xso xsn xsc, .slice xo xn xc] 25)) (.cells #[.slice so sn sc, .slice ao an ac] 25)).mono k1.size)
  have k3 := k2.trans ((box_below ((w.alloc (.cells #[.slice xso xsn xsc, .slice xo xn xc] 25)).alloc (.cells #[.slice so sn sc, .slice ao an ac] 25)) (.cells #[.slice none 0 0, .slice none 0 0] 25)).mono k2.size)
  obtain ⟨W1, hW1⟩ : ∃ W, W = w.alloc (.cells #[.slice xso xsn xsc, .slice xo xn xc] 25) := ⟨_, rfl⟩
  obtain ⟨W2, hW2⟩ : ∃ W, W = W1.alloc (.cells #[.slice so sn sc, .slice ao an ac] 25) := ⟨_, rfl⟩
  have s1 : W1.heap.size = w.heap.size + 1 := by rw [hW1]; simp
  have s2 : W2.heap.size = w.heap.size + 2 := by rw [hW2]; simp; omega
  have d3 := box_below W2 (.cells #[.slice none 0 0, .slice none 0 0] 25)
  have d2 := (hW2 ▸ box_below W1 (.cells #[.slice so sn sc, .slice ao an ac] 25) : Below W1.heap.size W1 W2).trans (d3.mono (by omega))
  have n3 := allocNew W2 (.cells #[.slice none 0 0, .slice none 0 0] 25)
  have n2 := (d3.block W1.heap.size (by omega)).trans (hW2 ▸ allocNew W1 (.cells #[.slice so sn sc, .slice ao an ac] 25))
  have n1 := (d2.block w.heap.size (by omega)).trans (hW1 ▸ allocNew w (.cells #[.slice xso xsn xsc, .slice xo xn xc] 25))
  rw [s2] at n3
  rw [s1] at n2
  have s3 : (W2.alloc (.cells #[.slice none 0 0, .slice none 0 0] 25)).heap.size = w.heap.size + 3 := by simp; omega
  subst hW2
  subst hW1
  clear k1 k2 d3 d2 s1 s2
  have hax := axesOf_any so sn sc sy _ (hsy.below k3 (Nat.le_refl _)) (by omega) h0 h1
  have hmk := fun W => run_make_row' (P := Tryz.prog) 32 4 (.bool false) 1 Tryz.underlying32 (by kernel_rfl) rfl .i64 .i64 sn (by omega) (by omega) W
  obtain ⟨x0, x1, _, _⟩ := box2 n1
  obtain ⟨y0, y1, _, _⟩ := box2 n2
  have HG : Hid (∀ k, k < m → -(sn : Int) ≤ nth xs k ∧ nth xs k < (sn : Int) ∧ (sen sn xs k).contains (nrm sn (nth xs k)) = false) := G
  have HL : Hid (xs.length = xn) := hx.len
  have HX : Hid ((axsOf sy).length = sn) := (axsOf_len sy).trans hsy.len
  clear G h0 h1
  go_enter Tryz.func31, Tryz.ntmps31
  go_upto_region 4 with (first
    | (go_at_call 66; (with_reducible refine hax.mono ?_); rintro e w1 ⟨rfl, A1, b1⟩
       have b4 := k3.trans (b1.mono k3.size)
       have z1 := b1.size
       have m3 := (b1.block (w.heap.size + 2) (by omega)).trans n3
       have m2 := (b1.block (w.heap.size + 1) (by omega)).trans n2
       have m1 := (b1.block w.heap.size (by omega)).trans n1
       clear x0 x1 y0 y1 n1 n2 n3 hax b1))
  have z2 : w.heap.size + 3 ≤ w1.heap.size := by omega
  have NM := nmd_made w1 sn
  have bN := box_below w1 (.cells (madeCells #[.bool false] sn) 4)
  rw [s3] at A1
  generalize w1.alloc (.cells (madeCells #[.bool false] sn) 4) = WN at *
  have A2 := A1.below bN
  obtain ⟨x0, x1, _, _⟩ := box2 ((bN.block w.heap.size (by omega)).trans m1)
  have X1 : Axo WN w1.heap.size (.slice none 0 0) ((sen sn xs 0).map (nax (axsOf sy))) := Axo.nil _ _
  have N1 : Nmd WN w1.heap.size sn (fun i => (sen sn xs 0).contains i) := NM
  have glt : w.heap.size + 3 < w1.heap.size := A1.lt
  have ng1 : ¬ w.heap.size + 3 = w1.heap.size := by omega
  have ng2 : ¬ w1.heap.size = w.heap.size + 3 := by omega
  clear s3
  generalize hgx : axsOf sy = axs at *
  have HGX : Hid (axsOf sy = axs) := hgx
  clear hgx
  go_wp2
  go_loopw [24, 8] (fun a b V => ∃ k : Nat, k ≤ m ∧ a = .int .i64 (k : Nat) ∧ Axo V w1.heap.size b ((sen sn xs k).map (nax axs)) ∧ Nmd V w1.heap.size sn (fun i => (sen sn xs k).contains i) ∧ Below w1.heap.size w1 V) (fun a _ _ => xn - (intOf a).toNat)
  case atStart => exact ⟨0, Nat.zero_le _, rfl, X1, N1, bN⟩
  case round =>
    obtain ⟨k, hk, rfl, X, NN, bel⟩ := hrel
    clear X1 N1 NM bN A2 x0 x1
    have bw := b4.trans (bel.mono b4.size)
    have hxV := hx.below bw (Nat.le_refl _)
    by_cases hlm : k < m
    · obtain ⟨g1, g2, g3⟩ := HG.out k hlm
      have hlt : k < xn := by omega
      obtain ⟨b, off, rfl, hb, hc⟩ := hxV.cells (by omega)
      have cz := hc k hlt
      have t1 : decide ((k : Int) < (xn : Int)) = true := by simp; omega
      have bk : (k : Int) < (xn : Int) := by omega
      have wk : IntKind.i64.wrap ((k : Int) + 1) = (k : Int) + 1 := wrapIn _ (by omega)
      have wn : IntKind.i64.wrap (-(sn : Int)) = -(sn : Int) := wrapIn _ (by omega)
      clear hc
      have hni : nrm sn (nth xs k) < sn := by unfold nrm; split <;> omega
      have hnz : (nth xs k < 0 ∧ nth xs k + (sn : Int) = (nrm sn (nth xs k) : Nat)) ∨ (0 ≤ nth xs k ∧ nth xs k = (nrm sn (nth xs k) : Nat)) := by unfold nrm; split <;> omega
      have es : sen sn xs (k + 1) = sen sn xs k ++ [nrm sn (nth xs k)] := sen_succ (by rw [HL.out]; exact hlt)
      have sl : (sen sn xs k).length ≤ 8 := by rw [sen_len (by rw [HL.out]; omega)]; omega
      have HES : Hid (sen sn xs (k + 1) = sen sn xs k ++ [nrm sn (nth xs k)]) := es
      clear es
      generalize hi : nrm sn (nth xs k) = i at *
      clear hi
      generalize nth xs k = z at *
      obtain ⟨cur, u1, u2, u3⟩ := A1.row
      obtain ⟨K, cs, bs, a1, a2, a3, a4, a5, a6, a7, a8⟩ := u3 i hni
      have hv1 := (bel.block (w.heap.size + 3) glt).trans u1
      obtain ⟨p1, p2⟩ := NN.cell hni
      rw [g3] at p1
      have bi : (i : Int) < (sn : Int) := by omega
      have lB : w1.heap.size ≤ wr.heap.size := bel.size
      have nrow : ∃ cu, wr.heap[w1.heap.size]? = some (.cells cu 4 (0, 0)) := by obtain ⟨cu, h, _⟩ := NN.row; exact ⟨_, h⟩
      obtain ⟨cu, hcu⟩ := nrow
      have X2 := X.setKind hcu (by decide) (Nat.le_refl _) (i := i) (.bool true)
      have N2 := NN.set hni (P' := fun j => (sen sn xs (k + 1)).contains j) (fun j hj => by
        rw [HES.out]
        by_cases e : j = i
        · rw [if_pos e, e]; simp
        · rw [if_neg e]; simp [e])
      have bel2 := bel.setCell (p := ⟨w1.heap.size, i, none⟩) (Nat.le_refl _) (.bool true)
      have hv2 := (heap_setCell_other wr ⟨w1.heap.size, i, none⟩ (w.heap.size + 3) (.bool true) ng1).trans hv1
      have kb : ∀ b, b ∈ bs → (∃ v, (wr.setCell ⟨w1.heap.size, i, none⟩ (.bool true)).cell? ⟨b, 0, none⟩ = some v) ∧ b < w1.heap.size := fun b m => by
        obtain ⟨⟨v, hv⟩, _⟩ := a6 b m
        have lt := World.block_lt_of_cell? w1 _ hv
        exact ⟨⟨v, (bel2.cell (p := ⟨b, 0, none⟩) lt).trans hv⟩, lt⟩
      have wy := a5.keep (W1 := wr.setCell ⟨w1.heap.size, i, none⟩ (.bool true)) (fun b m => bel2.block b (kb b m).2)
      rcases hnz with ⟨hneg, hsum⟩ | ⟨hpos, hz⟩
      · have t2 : decide (z < -(sn : Int)) = false := by simp; omega
        have t3 : decide ((sn : Int) ≤ z) = false := by simp; omega
        have t4 : decide (z < 0) = true := by simp; omega
        have wz : IntKind.i64.wrap (z + (sn : Int)) = (i : Int) := by rw [hsum]; exact wrapIn _ (by omega)
        clear hsum g1 g2 hneg
        go_upto_region 15 with fail
        clear p1 p2 hv1 hcu X NN cz u1
        generalize wr.setCell ⟨w1.heap.size, i, none⟩ (.bool true) = Vs at X2 N2 bel2 hv2 kb wy ⊢
        have r0 := (cell_of_row Vs (w.heap.size + 3) (i * 4) _ _ (0, 0) hv2).trans (by simpa using a1)
        have r1 := (cell_of_row Vs (w.heap.size + 3) (i * 4 + 1) _ _ (0, 0) hv2).trans (by simpa using a2)
        have r2 := (cell_of_row Vs (w.heap.size + 3) (i * 4 + 2) _ _ (0, 0) hv2).trans (by simpa using a3)
        have r3 := (cell_of_row Vs (w.heap.size + 3) (i * 4 + 3) _ _ (0, 0) hv2).trans (by simpa using a4)
        have kl := box_below Vs (.cells #[.int .i64 ((nax axs i).len : Nat), .int .i64 ((nax axs i).wid : Nat), .int .i64 ((nax axs i).stp : Nat), .func (.func K) #[] cs] 89)
        have nl := allocNew Vs (.cells #[.int .i64 ((nax axs i).len : Nat), .int .i64 ((nax axs i).wid : Nat), .int .i64 ((nax axs i).stp : Nat), .func (.func K) #[] cs] 89)
        have X3 := X2.alloc (.cells #[.int .i64 ((nax axs i).len : Nat), .int .i64 ((nax axs i).wid : Nat), .int .i64 ((nax axs i).stp : Nat), .func (.func K) #[] cs] 89)
        have N3 := N2.below kl
        have bel3 := bel2.trans (kl.mono bel2.size)
        go_wp2_with (at_builtin; refine wpList_axis rfl _ _ rfl w1.heap.size Vs.heap.size _ _ (nax axs i) K cs bs rfl rfl X3 nl (wy.keep (fun b m => kl.block b (Nat.lt_of_lt_of_le (kb b m).2 bel2.size))) (fun b m => ⟨(kb b m).1.imp fun v hv => (kl.cell (p := ⟨b, 0, none⟩) (Nat.lt_of_lt_of_le (kb b m).2 bel2.size)).trans hv, (kb b m).2⟩) a7 a8 (by rw [List.length_map]; omega) bel3.size ?_; intro xo' c' w' X4 gr)
        have ne := X3.nebool N3
        go_roundw
        case rel =>
          refine ⟨k + 1, by omega, by go_num, ?_, N3.kept (gr.block _ (Array.getElem?_eq_some_iff.1 N3.row.choose_spec.1).1 (fun e => ne e.symm)), bel3.grown gr bel3.size (fun q hq => ?_)⟩
          · rw [List.length_map] at X4; rw [HES.out, List.map_append]; exact X4
          · obtain ⟨ds, d1, _⟩ := X3.row
            exact (d1.lt q hq).1
        case measure => simp [intOf]; omega
      · have t2 : decide ((i : Int) < -(sn : Int)) = false := by simp <;> omega
        have t3 : decide ((sn : Int) ≤ (i : Int)) = false := by simp <;> omega
        have t4 : decide ((i : Int) < 0) = false := by simp
        have t3' : decide (sn ≤ i) = false := by simp; omega
        subst hz
        clear g1 g2 hpos
        go_upto_region 15 with fail
        clear p1 p2 hv1 hcu X NN cz u1
        generalize wr.setCell ⟨w1.heap.size, i, none⟩ (.bool true) = Vs at X2 N2 bel2 hv2 kb wy ⊢
        have r0 := (cell_of_row Vs (w.heap.size + 3) (i * 4) _ _ (0, 0) hv2).trans (by simpa using a1)
        have r1 := (cell_of_row Vs (w.heap.size + 3) (i * 4 + 1) _ _ (0, 0) hv2).trans (by simpa using a2)
        have r2 := (cell_of_row Vs (w.heap.size + 3) (i * 4 + 2) _ _ (0, 0) hv2).trans (by simpa using a3)
        have r3 := (cell_of_row Vs (w.heap.size + 3) (i * 4 + 3) _ _ (0, 0) hv2).trans (by simpa using a4)
        have kl := box_below Vs (.cells #[.int .i64 ((nax axs i).len : Nat), .int .i64 ((nax axs i).wid : Nat), .int .i64 ((nax axs i).stp : Nat), .func (.func K) #[] cs] 89)
        have nl := allocNew Vs (.cells #[.int .i64 ((nax axs i).len : Nat), .int .i64 ((nax axs i).wid : Nat), .int .i64 ((nax axs i).stp : Nat), .func (.func K) #[] cs] 89)
        have X3 := X2.alloc (.cells #[.int .i64 ((nax axs i).len : Nat), .int .i64 ((nax axs i).wid : Nat), .int .i64 ((nax axs i).stp : Nat), .func (.func K) #[] cs] 89)
        have N3 := N2.below kl
        have bel3 := bel2.trans (kl.mono bel2.size)
        go_wp2_with (at_builtin; refine wpList_axis rfl _ _ rfl w1.heap.size Vs.heap.size _ _ (nax axs i) K cs bs rfl rfl X3 nl (wy.keep (fun b m => kl.block b (Nat.lt_of_lt_of_le (kb b m).2 bel2.size))) (fun b m => ⟨(kb b m).1.imp fun v hv => (kl.cell (p := ⟨b, 0, none⟩) (Nat.lt_of_lt_of_le (kb b m).2 bel2.size)).trans hv, (kb b m).2⟩) a7 a8 (by rw [List.length_map]; omega) bel3.size ?_; intro xo' c' w' X4 gr)
        have ne := X3.nebool N3
        go_roundw
        case rel =>
          refine ⟨k + 1, by omega, by go_num, ?_, N3.kept (gr.block _ (Array.getElem?_eq_some_iff.1 N3.row.choose_spec.1).1 (fun e => ne e.symm)), bel3.grown gr bel3.size (fun q hq => ?_)⟩
          · rw [List.length_map] at X4; rw [HES.out, List.map_append]; exact X4
          · obtain ⟨ds, d1, _⟩ := X3.row
            exact (d1.lt q hq).1
        case measure => simp [intOf]; omega
    · obtain rfl : k = m := by omega
      obtain ⟨b, off, rfl, hb, hc⟩ := hxV.cells (by omega)
      have cz := hc k hmx
      have t1 : decide ((k : Int) < (xn : Int)) = true := by simp; omega
      have bk : (k : Int) < (xn : Int) := by omega
      have wn : IntKind.i64.wrap (-(sn : Int)) = -(sn : Int) := wrapIn _ (by omega)
      obtain ⟨z0, z1, z2, z3⟩ := box2 ((bel.block (w.heap.size + 2) (by omega)).trans m3)
      clear hc X A1
      have hni : nrm sn (nth xs k) < sn := by unfold nrm; split <;> omega
      have hnz : (nth xs k < 0 ∧ nth xs k + (sn : Int) = (nrm sn (nth xs k) : Nat)) ∨ (0 ≤ nth xs k ∧ nth xs k = (nrm sn (nth xs k) : Nat)) := by unfold nrm; split <;> omega
      obtain ⟨p1, p2⟩ := NN.cell hni
      rw [hb3] at p1
      generalize hi : nrm sn (nth xs k) = i at *
      clear hi NN
      have bi : (i : Int) < (sn : Int) := by omega
      generalize nth xs k = z at *
      rcases hnz with ⟨hneg, hsum⟩ | ⟨hpos, hz⟩
      · have t2 : decide (z < -(sn : Int)) = false := by simp; omega
        have t3 : decide ((sn : Int) ≤ z) = false := by simp; omega
        have t4 : decide (z < 0) = true := by simp; omega
        have wz : IntKind.i64.wrap (z + (sn : Int)) = (i : Int) := by rw [hsum]; exact wrapIn _ (by omega)
        clear hsum hneg hb1 hb2
        go_wp2
        (try simp only [Exit.inBlock, Exit.then])
        refine bodyPost_ret (v := .tuple #[.agg #[.slice none 0 0, .slice none 0 0], .int .i64 10]) (by rw [results_cell_tmp rfl]; go_simp) rfl ?_
        exact ⟨rfl, below_set2 _ _ _ _ bw (by omega) (Nat.le_refl _)⟩
      · have t2 : decide ((i : Int) < -(sn : Int)) = false := by simp <;> omega
        have t3 : decide ((sn : Int) ≤ (i : Int)) = false := by simp <;> omega
        have t4 : decide ((i : Int) < 0) = false := by simp
        have t3' : decide (sn ≤ i) = false := by simp; omega
        subst hz
        clear hpos hb1 hb2
        go_wp2
        (try simp only [Exit.inBlock, Exit.then])
        refine bodyPost_ret (v := .tuple #[.agg #[.slice none 0 0, .slice none 0 0], .int .i64 10]) (by rw [results_cell_tmp rfl]; go_simp) rfl ?_
        exact ⟨rfl, below_set2 _ _ _ _ bw (by omega) (Nat.le_refl _)⟩
end Go.Proofs.YtldhochafkcpiaaGreat
