
/- Contract of mold.arrange, where every axis is there and is named once. -/

import Derived.Test.YtldhochafkcpiaaGreatAR2
import Derived.Deep.Cut


namespace Go.Proofs.YtldhochafkcpiaaGreat

open Go.RowKit

set_option linter.unusedVariables false

def nrm (n : Nat) (z : Int) : Nat := (if z < 0 then z + n else z).toNat
def sen (n : Nat) (xs : List Int) (k : Nat) : List Nat := (xs.take k).map (nrm n)
/-- Every axis is there, and is named once. -/
def Gd (n : Nat) (xs : List Int) : Prop := ∀ k, k < xs.length → -(n : Int) ≤ nth xs k ∧ nth xs k < (n : Int) ∧ (sen n xs k).contains (nrm n (nth xs k)) = false
def rst (s : List Nat) (k : Nat) : List Nat := (List.range k).filter fun i => !s.contains i
/-- The axes in their new order. -/
def prm (n : Nat) (xs : List Int) : List Nat := rst (sen n xs xs.length) n ++ sen n xs xs.length
theorem sen_succ {n : Nat} {xs : List Int} {k : Nat} (h : k < xs.length) : sen n xs (k + 1) = sen n xs k ++ [nrm n (nth xs k)] := by
  unfold sen; rw [take_nth h, List.map_append]; rfl
theorem sen_len {n : Nat} {xs : List Int} {k : Nat} (h : k ≤ xs.length) : (sen n xs k).length = k := by unfold sen; simp; omega
theorem rst_succ (s : List Nat) (k : Nat) : rst s (k + 1) = rst s k ++ (if s.contains k then [] else [k]) := by
  unfold rst
  rw [List.range_succ, List.filter_append]
  congr 1
  have e : ∀ b : Bool, s.contains k = b → List.filter (fun i => !s.contains i) [k] = if b then [] else [k] := fun b hb => by
    rw [List.filter_cons, hb]
    cases b <;> rfl
  cases h : s.contains k
  · exact e false h
  · exact e true h
theorem rst_len (s : List Nat) (k : Nat) : (rst s k).length ≤ k := by
  unfold rst; exact Nat.le_trans (List.length_filter_le _ _) (by simp)

set_option maxRecDepth 20000 in
set_option maxHeartbeats 8000000 in
theorem arrange_ok (xso xo so ao : Option Addr) (xsn xsc xn xc sn sc an ac : Nat) (xs sy ay : List Int) (w : World) (hx : Rd w xo xn xs) (hsy : Rd w so sn sy) (hay : Rd w ao an ay) (hn : sn ≤ 8) (h0 : ∀ k, k < sn → 0 ≤ nth sy k ∧ nth sy k ≤ 4096) (h1 : ∀ k, k ≤ sn → 0 ≤ pr (sy.drop k) ∧ pr (sy.drop k) ≤ 4096) (G : Gd sn xs) (hxn : xn ≤ sn)
    (hl : ∀ k, k < (prm sn xs).length → (nax ((prm sn xs).map (nax (axsOf sy))) k).len ≤ 1000000)
    (hp : mayF (lens ((prm sn xs).map (nax (axsOf sy)))) = 0 → ∀ p, p ∈ pls ((prm sn xs).map (nax (axsOf sy))) → p = -1 ∨ (0 ≤ p ∧ p < an)) :
    Calls Tryz.prog 31 #[.agg #[.slice xso xsn xsc, .slice xo xn xc], .agg #[.slice so sn sc, .slice ao an ac]] w fun e w' => ∃ o1 n1 c1 o2 n2 c2, e = .returned (.tuple #[.agg #[.slice o1 n1 c1, .slice o2 n2 c2], .int .i64 (mayF (lens ((prm sn xs).map (nax (axsOf sy)))))]) ∧ Ft 3 w' w.heap.size o1 n1 c1 (filS (lens ((prm sn xs).map (nax (axsOf sy))))) ∧ Ft 2 w' w.heap.size o2 n2 c2 (gthS ay ((prm sn xs).map (nax (axsOf sy)))) ∧ Below w.heap.size w w' := by
  have k1 := box_below w (.cells #[.slice xso xsn xsc, .slice xo xn xc] 25)
  have k2 := k1.trans ((box_below (w.alloc (.cells #[.slice xso xsn xsc, .slice xo xn xc] 25)) (.cells #[.slice so sn sc, .slice ao an ac] 25)).mono k1.size)
  have k3 := k2.trans ((box_below ((w.alloc (.cells #[.slice xso xsn xsc, .slice xo xn xc] 25)).alloc (.cells #[.slice so sn sc, .slice ao an ac] 25)) (.cells #[.slice none 0 0, .slice none 0 0] 25)).mono k2.size)
  obtain ⟨W1, hW1⟩ : ∃ W, W = w.alloc (.cells #[.slice xso xsn xsc, .slice xo xn xc] 25) := ⟨_, rfl⟩
  obtain ⟨W2, hW2⟩ : ∃ W, W = W1.alloc (.cells #[.slice so sn sc, .slice ao an ac] 25) := ⟨_, rfl⟩
  have s1 : W1.heap.size = w.heap.size + 1 := by rw [hW1]; simp
  have s2 : W2.heap.size = w.heap.size + 2 := by rw [hW2]; simp; omega
  have d3 := box_below W2 (.cells #[.slice none 0 0, .slice none 0 0] 25)
  have d2 := (hW2 ▸ box_below W1 (.cells #[.slice so sn sc, .slice ao an ac] 25) : Below W1.heap.size W1 W2).trans (d3.mono (by omega))
  have n3 := allocNew W2 (.cells #[.slice none 0 0, .slice none 0 0] 25)
  have n2 := (d3.block W1.heap.size (by omega)).trans (hW2 ▸ allocNew W1 (.cells #[.slice so sn sc, .slice ao an ac] 25))
  have n1 := (d2.block w.heap.size (by omega)).trans (hW1 ▸ allocNew w (.cells #[.slice xso xsn xsc, .slice xo xn xc] 25))
  rw [s2] at n3
  rw [s1] at n2
  have s3 : (W2.alloc (.cells #[.slice none 0 0, .slice none 0 0] 25)).heap.size = w.heap.size + 3 := by simp; omega
  subst hW2
  subst hW1
  clear k1 k2 d3 d2 s1 s2
  have hax := axesOf_any so sn sc sy _ (hsy.below k3 (Nat.le_refl _)) (by omega) h0 h1
  have hmk := fun W => run_make_row' (P := Tryz.prog) 32 4 (.bool false) 1 Tryz.underlying32 (by kernel_rfl) rfl .i64 .i64 sn (by omega) (by omega) W
  obtain ⟨x0, x1, _, _⟩ := box2 n1
  obtain ⟨y0, y1, _, _⟩ := box2 n2
  have HG : Hid (Gd sn xs) := G
  have HL : Hid (xs.length = xn) := hx.len
  have HX : Hid ((axsOf sy).length = sn) := (axsOf_len sy).trans hsy.len
  clear G h0 h1
  go_enter Tryz.func31, Tryz.ntmps31
  go_upto_region 4 with (first
    | (go_at_call 66; (with_reducible refine hax.mono ?_); rintro e w1 ⟨rfl, A1, b1⟩
       have b4 := k3.trans (b1.mono k3.size)
       have z1 := b1.size
       have m3 := (b1.block (w.heap.size + 2) (by omega)).trans n3
       have m2 := (b1.block (w.heap.size + 1) (by omega)).trans n2
       have m1 := (b1.block w.heap.size (by omega)).trans n1
       clear x0 x1 y0 y1 n1 n2 n3 hax b1))
  have z2 : w.heap.size + 3 ≤ w1.heap.size := by omega
  have NM := nmd_made w1 sn
  have bN := box_below w1 (.cells (madeCells #[.bool false] sn) 4)
  rw [s3] at A1
  generalize w1.alloc (.cells (madeCells #[.bool false] sn) 4) = WN at *
  have A2 := A1.below bN
  obtain ⟨x0, x1, _, _⟩ := box2 ((bN.block w.heap.size (by omega)).trans m1)
  have X1 : Axo WN w1.heap.size (.slice none 0 0) ((sen sn xs 0).map (nax (axsOf sy))) := Axo.nil _ _
  have N1 : Nmd WN w1.heap.size sn (fun i => (sen sn xs 0).contains i) := NM
  have glt : w.heap.size + 3 < w1.heap.size := A1.lt
  have ng1 : ¬ w.heap.size + 3 = w1.heap.size := by omega
  have ng2 : ¬ w1.heap.size = w.heap.size + 3 := by omega
  clear s3
  generalize hgx : axsOf sy = axs at *
  have HGX : Hid (axsOf sy = axs) := hgx
  clear hgx
  go_wp2
  go_loopw [24, 8] (fun a b V => ∃ k : Nat, k ≤ xn ∧ a = .int .i64 (k : Nat) ∧ Axo V w1.heap.size b ((sen sn xs k).map (nax axs)) ∧ Nmd V w1.heap.size sn (fun i => (sen sn xs k).contains i) ∧ Below w1.heap.size w1 V) (fun a _ _ => xn - (intOf a).toNat)
  case atStart => exact ⟨0, Nat.zero_le _, rfl, X1, N1, bN⟩
  case round =>
    obtain ⟨k, hk, rfl, X, NN, bel⟩ := hrel
    clear X1 N1 NM bN A2 x0 x1
    have bw := b4.trans (bel.mono b4.size)
    have hxV := hx.below bw (Nat.le_refl _)
    by_cases hlt : k < xn
    · obtain ⟨g1, g2, g3⟩ := HG.out k (by rw [HL.out]; exact hlt)
      obtain ⟨b, off, rfl, hb, hc⟩ := hxV.cells (by omega)
      have cz := hc k hlt
      have t1 : decide ((k : Int) < (xn : Int)) = true := by simp; omega
      have bk : (k : Int) < (xn : Int) := by omega
      have wk : IntKind.i64.wrap ((k : Int) + 1) = (k : Int) + 1 := wrapIn _ (by omega)
      have wn : IntKind.i64.wrap (-(sn : Int)) = -(sn : Int) := wrapIn _ (by omega)
      clear hc
      have hni : nrm sn (nth xs k) < sn := by unfold nrm; split <;> omega
      have hnz : (nth xs k < 0 ∧ nth xs k + (sn : Int) = (nrm sn (nth xs k) : Nat)) ∨ (0 ≤ nth xs k ∧ nth xs k = (nrm sn (nth xs k) : Nat)) := by unfold nrm; split <;> omega
      have es : sen sn xs (k + 1) = sen sn xs k ++ [nrm sn (nth xs k)] := sen_succ (by rw [HL.out]; exact hlt)
      have sl : (sen sn xs k).length ≤ 8 := by rw [sen_len (by rw [HL.out]; omega)]; omega
      have HES : Hid (sen sn xs (k + 1) = sen sn xs k ++ [nrm sn (nth xs k)]) := es
      clear es
      generalize hi : nrm sn (nth xs k) = i at *
      clear hi
      generalize nth xs k = z at *
      obtain ⟨cur, u1, u2, u3⟩ := A1.row
      obtain ⟨K, cs, bs, a1, a2, a3, a4, a5, a6, a7, a8⟩ := u3 i hni
      have hv1 := (bel.block (w.heap.size + 3) glt).trans u1
      obtain ⟨p1, p2⟩ := NN.cell hni
      rw [g3] at p1
      have bi : (i : Int) < (sn : Int) := by omega
      have lB : w1.heap.size ≤ wr.heap.size := bel.size
      have nrow : ∃ cu, wr.heap[w1.heap.size]? = some (.cells cu 4 (0, 0)) := by obtain ⟨cu, h, _⟩ := NN.row; exact ⟨_, h⟩
      obtain ⟨cu, hcu⟩ := nrow
      have X2 := X.setKind hcu (by decide) (Nat.le_refl _) (i := i) (.bool true)
      have N2 := NN.set hni (P' := fun j => (sen sn xs (k + 1)).contains j) (fun j hj => by
        rw [HES.out]
        by_cases e : j = i
        · rw [if_pos e, e]; simp
        · rw [if_neg e]; simp [e])
      have bel2 := bel.setCell (p := ⟨w1.heap.size, i, none⟩) (Nat.le_refl _) (.bool true)
      have hv2 := (heap_setCell_other wr ⟨w1.heap.size, i, none⟩ (w.heap.size + 3) (.bool true) ng1).trans hv1
      have kb : ∀ b, b ∈ bs → (∃ v, (wr.setCell ⟨w1.heap.size, i, none⟩ (.bool true)).cell? ⟨b, 0, none⟩ = some v) ∧ b < w1.heap.size := fun b m => by
        obtain ⟨⟨v, hv⟩, _⟩ := a6 b m
        have lt := World.block_lt_of_cell? w1 _ hv
        exact ⟨⟨v, (bel2.cell (p := ⟨b, 0, none⟩) lt).trans hv⟩, lt⟩
      have wy := a5.keep (W1 := wr.setCell ⟨w1.heap.size, i, none⟩ (.bool true)) (fun b m => bel2.block b (kb b m).2)
      rcases hnz with ⟨hneg, hsum⟩ | ⟨hpos, hz⟩
      · have t2 : decide (z < -(sn : Int)) = false := by simp; omega
        have t3 : decide ((sn : Int) ≤ z) = false := by simp; omega
        have t4 : decide (z < 0) = true := by simp; omega
        have wz : IntKind.i64.wrap (z + (sn : Int)) = (i : Int) := by rw [hsum]; exact wrapIn _ (by omega)
        clear hsum g1 g2 hneg
        go_upto_region 15 with fail
        clear p1 p2 hv1 hcu X NN cz u1
        generalize wr.setCell ⟨w1.heap.size, i, none⟩ (.bool true) = Vs at X2 N2 bel2 hv2 kb wy ⊢
        have r0 := (cell_of_row Vs (w.heap.size + 3) (i * 4) _ _ (0, 0) hv2).trans (by simpa using a1)
        have r1 := (cell_of_row Vs (w.heap.size + 3) (i * 4 + 1) _ _ (0, 0) hv2).trans (by simpa using a2)
        have r2 := (cell_of_row Vs (w.heap.size + 3) (i * 4 + 2) _ _ (0, 0) hv2).trans (by simpa using a3)
        have r3 := (cell_of_row Vs (w.heap.size + 3) (i * 4 + 3) _ _ (0, 0) hv2).trans (by simpa using a4)
        have kl := box_below Vs (.cells #[.int .i64 ((nax axs i).len : Nat), .int .i64 ((nax axs i).wid : Nat), .int .i64 ((nax axs i).stp : Nat), .func (.func K) #[] cs] 89)
        have nl := allocNew Vs (.cells #[.int .i64 ((nax axs i).len : Nat), .int .i64 ((nax axs i).wid : Nat), .int .i64 ((nax axs i).stp : Nat), .func (.func K) #[] cs] 89)
        have X3 := X2.alloc (.cells #[.int .i64 ((nax axs i).len : Nat), .int .i64 ((nax axs i).wid : Nat), .int .i64 ((nax axs i).stp : Nat), .func (.func K) #[] cs] 89)
        have N3 := N2.below kl
        have bel3 := bel2.trans (kl.mono bel2.size)
        go_wp2_with (at_builtin; refine wpList_axis rfl _ _ rfl w1.heap.size Vs.heap.size _ _ (nax axs i) K cs bs rfl rfl X3 nl (wy.keep (fun b m => kl.block b (Nat.lt_of_lt_of_le (kb b m).2 bel2.size))) (fun b m => ⟨(kb b m).1.imp fun v hv => (kl.cell (p := ⟨b, 0, none⟩) (Nat.lt_of_lt_of_le (kb b m).2 bel2.size)).trans hv, (kb b m).2⟩) a7 a8 (by rw [List.length_map]; omega) bel3.size ?_; intro xo' c' w' X4 gr)
        have ne := X3.nebool N3
        go_roundw
        case rel =>
          refine ⟨k + 1, by omega, by go_num, ?_, N3.kept (gr.block _ (Array.getElem?_eq_some_iff.1 N3.row.choose_spec.1).1 (fun e => ne e.symm)), bel3.grown gr bel3.size (fun q hq => ?_)⟩
          · rw [List.length_map] at X4; rw [HES.out, List.map_append]; exact X4
          · obtain ⟨ds, d1, _⟩ := X3.row
            exact (d1.lt q hq).1
        case measure => simp [intOf]; omega
      · have t2 : decide ((i : Int) < -(sn : Int)) = false := by simp <;> omega
        have t3 : decide ((sn : Int) ≤ (i : Int)) = false := by simp <;> omega
        have t4 : decide ((i : Int) < 0) = false := by simp
        have t3' : decide (sn ≤ i) = false := by simp; omega
        subst hz
        clear g1 g2 hpos
        go_upto_region 15 with fail
        clear p1 p2 hv1 hcu X NN cz u1
        generalize wr.setCell ⟨w1.heap.size, i, none⟩ (.bool true) = Vs at X2 N2 bel2 hv2 kb wy ⊢
        have r0 := (cell_of_row Vs (w.heap.size + 3) (i * 4) _ _ (0, 0) hv2).trans (by simpa using a1)
        have r1 := (cell_of_row Vs (w.heap.size + 3) (i * 4 + 1) _ _ (0, 0) hv2).trans (by simpa using a2)
        have r2 := (cell_of_row Vs (w.heap.size + 3) (i * 4 + 2) _ _ (0, 0) hv2).trans (by simpa using a3)
        have r3 := (cell_of_row Vs (w.heap.size + 3) (i * 4 + 3) _ _ (0, 0) hv2).trans (by simpa using a4)
        have kl := box_below Vs (.cells #[.int .i64 ((nax axs i).len : Nat), .int .i64 ((nax axs i).wid : Nat), .int .i64 ((nax axs i).stp : Nat), .func (.func K) #[] cs] 89)
        have nl := allocNew Vs (.cells #[.int .i64 ((nax axs i).len : Nat), .int .i64 ((nax axs i).wid : Nat), .int .i64 ((nax axs i).stp : Nat), .func (.func K) #[] cs] 89)
        have X3 := X2.alloc (.cells #[.int .i64 ((nax axs i).len : Nat), .int .i64 ((nax axs i).wid : Nat), .int .i64 ((nax axs i).stp : Nat), .func (.func K) #[] cs] 89)
        have N3 := N2.below kl
        have bel3 := bel2.trans (kl.mono bel2.size)
        go_wp2_with (at_builtin; refine wpList_axis rfl _ _ rfl w1.heap.size Vs.heap.size _ _ (nax axs i) K cs bs rfl rfl X3 nl (wy.keep (fun b m => kl.block b (Nat.lt_of_lt_of_le (kb b m).2 bel2.size))) (fun b m => ⟨(kb b m).1.imp fun v hv => (kl.cell (p := ⟨b, 0, none⟩) (Nat.lt_of_lt_of_le (kb b m).2 bel2.size)).trans hv, (kb b m).2⟩) a7 a8 (by rw [List.length_map]; omega) bel3.size ?_; intro xo' c' w' X4 gr)
        have ne := X3.nebool N3
        go_roundw
        case rel =>
          refine ⟨k + 1, by omega, by go_num, ?_, N3.kept (gr.block _ (Array.getElem?_eq_some_iff.1 N3.row.choose_spec.1).1 (fun e => ne e.symm)), bel3.grown gr bel3.size (fun q hq => ?_)⟩
          · rw [List.length_map] at X4; rw [HES.out, List.map_append]; exact X4
          · obtain ⟨ds, d1, _⟩ := X3.row
            exact (d1.lt q hq).1
        case measure => simp [intOf]; omega
    · obtain rfl : xn = k := by omega
      have t1 : decide ((xn : Int) < (xn : Int)) = false := by simp
      have eX : Hid (xs.length = xn) := HL
      go_wp2
      obtain ⟨WL, hWL⟩ : ∃ W, W = wr := ⟨_, rfl⟩
      subst hWL
      have O1 : Axo WL WL.heap.size (.slice none 0 0) ((rst (sen sn xs xn) 0).map (nax axs)) := Axo.nil _ _
      have LB : w1.heap.size ≤ WL.heap.size := bel.size
      go_loopw [63, 9] (fun a b V => ∃ q : Nat, q ≤ sn ∧ a = .int .i64 (q : Nat) ∧ Axo V WL.heap.size b ((rst (sen sn xs xn) q).map (nax axs)) ∧ Below WL.heap.size WL V) (fun a _ _ => sn - (intOf a).toNat)
      case atStart => exact ⟨0, Nat.zero_le _, rfl, O1, Below.refl _ _⟩
      case round =>
        obtain ⟨q, hq, rfl, OX, bq⟩ := hrel
        clear O1
        have bel1 := bel.trans (bq.mono bel.size)
        have NV := NN.below bq
        by_cases hqn : q < sn
        · have t2 : decide ((q : Int) < (sn : Int)) = true := by simp; omega
          have bi : (q : Int) < (sn : Int) := by omega
          have wq : IntKind.i64.wrap ((q : Int) + 1) = (q : Int) + 1 := wrapIn _ (by omega)
          have ol := rst_len (sen sn xs xn) q
          obtain ⟨cur, u1, u2, u3⟩ := A1.row
          obtain ⟨K, cs, bs, a1, a2, a3, a4, a5, a6, a7, a8⟩ := u3 q hqn
          have hv1 := (bel1.block (w.heap.size + 3) glt).trans u1
          have r0 := (cell_of_row wr (w.heap.size + 3) (q * 4) _ _ (0, 0) hv1).trans (by simpa using a1)
          have r1 := (cell_of_row wr (w.heap.size + 3) (q * 4 + 1) _ _ (0, 0) hv1).trans (by simpa using a2)
          have r2 := (cell_of_row wr (w.heap.size + 3) (q * 4 + 2) _ _ (0, 0) hv1).trans (by simpa using a3)
          have r3 := (cell_of_row wr (w.heap.size + 3) (q * 4 + 3) _ _ (0, 0) hv1).trans (by simpa using a4)
          have kb : ∀ b, b ∈ bs → (∃ v, wr.cell? ⟨b, 0, none⟩ = some v) ∧ b < w1.heap.size := fun b m => by
            obtain ⟨⟨v, hv⟩, _⟩ := a6 b m
            have lt := World.block_lt_of_cell? w1 _ hv
            exact ⟨⟨v, (bel1.cell (p := ⟨b, 0, none⟩) lt).trans hv⟩, lt⟩
          have wy := a5.keep (W1 := wr) (fun b m => bel1.block b (kb b m).2)
          have kx := box_below wr (.cells #[.int .i64 ((nax axs q).len : Nat), .int .i64 ((nax axs q).wid : Nat), .int .i64 ((nax axs q).stp : Nat), .func (.func K) #[] cs] 89)
          have nx := allocNew wr (.cells #[.int .i64 ((nax axs q).len : Nat), .int .i64 ((nax axs q).wid : Nat), .int .i64 ((nax axs q).stp : Nat), .func (.func K) #[] cs] 89)
          have O2 := OX.alloc (.cells #[.int .i64 ((nax axs q).len : Nat), .int .i64 ((nax axs q).wid : Nat), .int .i64 ((nax axs q).stp : Nat), .func (.func K) #[] cs] 89)
          have bq2 := bq.trans (kx.mono bq.size)
          have NW := NV.below kx
          obtain ⟨p1, p2⟩ := NW.cell hqn
          have kb2 : ∀ b, b ∈ bs → (∃ v, (wr.alloc (.cells #[.int .i64 ((nax axs q).len : Nat), .int .i64 ((nax axs q).wid : Nat), .int .i64 ((nax axs q).stp : Nat), .func (.func K) #[] cs] 89)).cell? ⟨b, 0, none⟩ = some v) ∧ b < w1.heap.size := fun b m => ⟨(kb b m).1.imp fun v hv => (kx.cell (p := ⟨b, 0, none⟩) (Nat.lt_of_lt_of_le (kb b m).2 bel1.size)).trans hv, (kb b m).2⟩
          have wy2 := wy.keep (fun b m => kx.block b (Nat.lt_of_lt_of_le (kb b m).2 bel1.size))
          have er := rst_succ (sen sn xs xn) q
          clear X hxV
          go_upto_region 20 with fail
          clear r0 r1 r2 r3 hv1 OX kb wy kx
          generalize hpb : wr.heap.size = pb at *
          clear hpb
          generalize wr.alloc (.cells #[.int .i64 ((nax axs q).len : Nat), .int .i64 ((nax axs q).wid : Nat), .int .i64 ((nax axs q).stp : Nat), .func (.func K) #[] cs] 89) = Vb at *
          have v0 := (cell_of_row Vb pb 0 _ _ (0, 0) nx).trans rfl
          have v1 := (cell_of_row Vb pb 1 _ _ (0, 0) nx).trans rfl
          have v2 := (cell_of_row Vb pb 2 _ _ (0, 0) nx).trans rfl
          have v3 := (cell_of_row Vb pb 3 _ _ (0, 0) nx).trans rfl
          have bel4 := bel.trans (bq2.mono bel.size)
          cases hcn : (sen sn xs xn).contains q
          · rw [hcn] at p1 er
            have er' : rst (sen sn xs xn) (q + 1) = rst (sen sn xs xn) q ++ [q] := er
            have HER : Hid (rst (sen sn xs xn) (q + 1) = rst (sen sn xs xn) q ++ [q]) := er'
            clear er er' hcn
            have kl := box_below Vb (.cells #[.int .i64 ((nax axs q).len : Nat), .int .i64 ((nax axs q).wid : Nat), .int .i64 ((nax axs q).stp : Nat), .func (.func K) #[] cs] 89)
            have nl := allocNew Vb (.cells #[.int .i64 ((nax axs q).len : Nat), .int .i64 ((nax axs q).wid : Nat), .int .i64 ((nax axs q).stp : Nat), .func (.func K) #[] cs] 89)
            have O3 := O2.alloc (.cells #[.int .i64 ((nax axs q).len : Nat), .int .i64 ((nax axs q).wid : Nat), .int .i64 ((nax axs q).stp : Nat), .func (.func K) #[] cs] 89)
            have bq3 := bq2.trans (kl.mono bq2.size)
            go_wp2_with (at_builtin; refine wpList_axis rfl _ _ rfl WL.heap.size Vb.heap.size _ _ (nax axs q) K cs bs rfl rfl O3 nl (wy2.keep (fun b m => kl.block b (Nat.lt_of_lt_of_le (kb2 b m).2 bel4.size))) (fun b m => ⟨(kb2 b m).1.imp fun v hv => (kl.cell (p := ⟨b, 0, none⟩) (Nat.lt_of_lt_of_le (kb2 b m).2 bel4.size)).trans hv, Nat.lt_of_lt_of_le (kb2 b m).2 LB⟩) a7 a8 (by rw [List.length_map]; omega) bq3.size ?_; intro xo' c' w' X4 gr)
            go_roundw
            case rel =>
              refine ⟨q + 1, by omega, by go_num, ?_, bq3.grown gr bq3.size (fun r hr => ?_)⟩
              · rw [List.length_map] at X4; rw [HER.out, List.map_append]; exact X4
              · obtain ⟨ds, d1, _⟩ := O3.row
                exact (d1.lt r hr).1
            case measure => simp [intOf]; omega
          · rw [hcn] at p1 er
            have er' : rst (sen sn xs xn) (q + 1) = rst (sen sn xs xn) q := er.trans (List.append_nil _)
            have HER : Hid (rst (sen sn xs xn) (q + 1) = rst (sen sn xs xn) q) := er'
            clear er er' hcn
            go_wp2
            go_roundw
            case rel => exact ⟨q + 1, by omega, by go_num, by rw [HER.out]; exact O2, bq2⟩
            case measure => simp [intOf]; omega
        · obtain rfl : q = sn := by omega
          have t2 : decide ((q : Int) < (q : Int)) = false := by simp
          have bwV := bw.trans (bq.mono bw.size)
          have XV := X.below bq
          have m2V := (bel.block (w.heap.size + 1) (by omega)).trans m2
          have m3V := (bel.block (w.heap.size + 2) (by omega)).trans m3
          have ltW : w.heap.size + 3 < WL.heap.size := by omega
          have kd0 : Below wr.heap.size wr wr.drew := (Below.refl _ _).drew
          have OXd := OX.below kd0
          have XVd := XV.below kd0
          have kd := bq.trans (kd0.mono bq.size)
          have al : ∀ V, Below WL.heap.size WL V → V.cell? ⟨w.heap.size + 1, 0, none⟩ = some (.slice so q sc) ∧ V.cell? ⟨w.heap.size + 1, 1, none⟩ = some (.slice ao an ac) := fun V B =>
            ⟨(B.cell (p := ⟨w.heap.size + 1, 0, none⟩) (Array.getElem?_eq_some_iff.1 m2V).1).trans (box2 m2V).1, (B.cell (p := ⟨w.heap.size + 1, 1, none⟩) (Array.getElem?_eq_some_iff.1 m2V).1).trans (box2 m2V).2.1⟩
          have ol := rst_len (sen q xs xn) q
          have sl := sen_len (n := q) (xs := xs) (k := xn) (by rw [HL.out]; exact Nat.le_refl _)
          have eP : (prm q xs).map (nax axs) = (rst (sen q xs xn) q).map (nax axs) ++ (sen q xs xn).map (nax axs) := by unfold prm; rw [HL.out, List.map_append]
          have lP : (prm q xs).length = (rst (sen q xs xn) q).length + (sen q xs xn).length := by unfold prm; rw [HL.out, List.length_append]
          rw [eP] at hp hl
          have HEP : Hid ((prm q xs).map (nax axs) = (rst (sen q xs xn) q).map (nax axs) ++ (sen q xs xn).map (nax axs)) := eP
          clear eP
          rw [lP] at hl
          have hga := fun V xo' xc' (g : Rd V ao an ay) hxx => gather_any so ao xo' q sc an ac (((rst (sen q xs xn) q).map (nax axs)).length + ((sen q xs xn).map (nax axs)).length) xc' ay ((rst (sen q xs xn) q).map (nax axs) ++ (sen q xs xn).map (nax axs)) V g hxx (by rw [List.length_map, List.length_map]; omega) (by rw [List.length_map, List.length_map]; exact hl) hp
          have olm : ((rst (sen q xs xn) q).map (nax axs)).length ≤ 5000 := by rw [List.length_map]; omega
          have slm : ((sen q xs xn).map (nax axs)).length ≤ 5000 := by rw [List.length_map]; omega
          generalize (rst (sen q xs xn) q).map (nax axs) = PO at *
          generalize (sen q xs xn).map (nax axs) = PS at *
          go_wp2
          go_region_held3 (fun V => V.cell? ⟨w.heap.size + 1, 0, none⟩ = some (.slice so q sc) ∧ V.cell? ⟨w.heap.size + 1, 1, none⟩ = some (.slice ao an ac)) (first | exact al _ kd | exact al _ k5 | exact al _ k6 | exact S7)
            (first
              | (refine step_axes rfl (.tmp 79) (.tmp 80) rfl WL.heap.size w1.heap.size LB _ _ _ _ rfl rfl OXd XVd olm slm bq.size ?_; intro xo' c' w5 A5 gr5; have k5 : Below WL.heap.size WL w5 := kd.grown gr5 bq.size (fun r hr => by obtain ⟨ds, d1, _⟩ := OXd.row; exact (d1.lt r hr).1); have b5 := bw.trans (k5.mono bw.size))
              | (go_at_call 68; (with_reducible refine (hga _ _ _ (hay.below b5 (Nat.le_refl _)) (A5.ax (List.length_append ..))).mono ?_); rintro e w6 ⟨o1, n1, c1, o2, n2, c2, rfl, F1, F2, d6⟩; have b6 := b5.trans (d6.mono b5.size); have k6 := k5.trans (d6.mono k5.size); have l5 := b5.size; have l6 := k5.size; obtain ⟨z0, z1, z2, z3⟩ := box2 ((k6.block (w.heap.size + 2) (by omega)).trans m3V); have kk := set2 w6 (w.heap.size + 1 + 1) 0 1 (.slice o1 n1 c1) (.slice o2 n2 c2); have yy := box2 ((kk.block (w.heap.size + 1) (by have := k6.size; omega) (fun e => by injection e with e; omega)).trans ((k6.block (w.heap.size + 1) (by omega)).trans m2V)); have S7 : _ ∧ _ := ⟨yy.1, yy.2.1⟩))
          go_wp2
          (try simp only [Exit.inBlock, Exit.then])
          refine bodyPost_ret (v := .tuple #[.agg #[.slice o1 n1 c1, .slice o2 n2 c2], .int .i64 (mayF (lens (PO ++ PS)))]) (by rw [results_cell_tmp rfl]; go_simp) rfl ?_
          rw [HGX.out, HEP.out]
          have f1 := F1.keep1 kk (fun b off e => by have := (F1.at b off e).1; intro e'; simp only [Option.some.injEq] at e'; omega)
          have f2 := F2.keep1 kk (fun b off e => by have := (F2.at b off e).1; intro e'; simp only [Option.some.injEq] at e'; omega)
          exact ⟨o1, n1, c1, o2, n2, c2, rfl, f1.mono (by omega), f2.mono (by omega), below_set2 _ _ _ _ b6 (by omega) (Nat.le_refl _)⟩
end Go.Proofs.YtldhochafkcpiaaGreat
