
/- Contract of widthsOf. -/

import Derived.Test.YtppcfpiihkaopaaGreatDoorVL

import Derived.Test.YtppcfpiihkaopaaGreatDoorVM

import Derived.Test.YtppcfpiihkaopaaGreatDoorL2

import Derived.Test.YtppcfpiihkaopaaGreatDoorThere1

import Derived.Test.YtppcfpiihkaopaaGreatDoorVE

namespace Go.Proofs.YtppcfpiihkaopaaGreatDoor

open Go.RowKit Go.Shelf

attribute [local go_sem] Oper.semAt_some

set_option linter.unusedVariables false

/-- The column of a place. -/
def colN (S : List Int) (k : Nat) : Nat := (nth (digs S k) (S.length - 1)).toNat
/-- The columns' widths behind some places. -/
def widK (S A : List Int) (m : Nat) : Nat → List Int
  | 0 => List.replicate m 0
  | k + 1 => (widK S A m k).set (colN S k) (max (nth (widK S A m k) (colN S k)) ((wrt (nth A k)).length : Int))
theorem widK_len (S A : List Int) (m : Nat) : ∀ k, (widK S A m k).length = m
  | 0 => by simp [widK]
  | k + 1 => by simp [widK, widK_len S A m k]
theorem widK_nn (S A : List Int) (m : Nat) (h : In64 A) : ∀ k c, 0 ≤ nth (widK S A m k) c ∧ nth (widK S A m k) c ≤ 21
  | 0, c => by
    unfold nth widK
    rw [List.getD_eq_getElem?_getD]
    by_cases hc : c < m
    · rw [List.getElem?_eq_getElem (by simpa using hc)]; simp
    · rw [List.getElem?_eq_none (by simpa using hc)]; simp
  | k + 1, c => by
    have ih := widK_nn S A m h k
    have hw : ((wrt (nth A k)).length : Int) ≤ 21 := by
      have hz : -9223372036854775808 ≤ nth A k ∧ nth A k ≤ 9223372036854775807 := by
        unfold nth
        rw [List.getD_eq_getElem?_getD]
        by_cases hk : k < A.length
        · rw [List.getElem?_eq_getElem hk]; exact h _ (List.getElem_mem hk)
        · rw [List.getElem?_eq_none (by omega)]; decide
      have := wr_len (nth A k) hz.1 hz.2
      omega
    unfold widK
    have e : ∀ (l : List Int) (i : Nat) (v : Int), nth (l.set i v) c = if i = c ∧ c < l.length then v else nth l c := fun l i v => by
      unfold nth
      rw [List.getD_eq_getElem?_getD, List.getD_eq_getElem?_getD, List.getElem?_set]
      by_cases h1 : i = c
      · subst h1
        by_cases h2 : i < l.length
        · simp [h2]
        · simp [h2]
      · simp [h1]
    rw [e]
    have h1 := ih (colN S k)
    have h2 := ih c
    split
    · omega
    · exact h2
theorem made_eqS (S A : List Int) (m : Nat) : madeCells #[.int .i64 0] m = ((widK S A m 0).map (Value.int .i64)).toArray := by
  apply Array.ext'
  apply List.ext_getElem
  · simp [madeCells, widK]
  · intro i h1 h2; simp [madeCells, Nat.mod_one, widK]
theorem row_cell {l : List Int} {i : Nat} (h : i < l.length) : (l.map (Value.int .i64)).toArray[i]? = some (.int .i64 (nth l i)) := by
  unfold nth
  simp [h]
/-- The last index of a place. -/
theorem col_ok {S : List Int} {sn k : Nat} (hm : mayF S = 0) (hl : S.length = sn) (h2 : 1 ≤ sn) (hk : (k : Int) < pr S) : ∀ m : Nat, nth S (sn - 1) = (m : Int) → nth (digs S k) (sn - 1) = (colN S k : Int) ∧ colN S k < m := by
  intro m hmm
  have hi := idx_digs (p := (k : Int)) (allPos_of hm (Int.natCast_nonneg k) hk) (sn - 1) (by omega)
  unfold colN
  rw [hl]
  omega
/-- Between two rounds of widthsOf. -/
structure WdI (w : World) (so : Option Addr) (sn sc : Nat) (ao : Option Addr) (an ac m q : Nat) (B1 B2 : Nat) (qo : Option Addr) (qc : Nat) (S A : List Int) (k : Nat) (W : World) : Prop where
  i0 : W.heap[w.heap.size]? = some (.cells #[.slice so sn sc, .slice ao an ac] 36 (0, 0))
  i1 : Boxed W (w.heap.size + 1) 3 (.int .i64 (q : Int))
  i3 : Boxed W (w.heap.size + 1 + 1 + 1) 25 (.slice (some ⟨w.heap.size + 1 + 1, 0, none⟩) m m)
  row : W.heap[w.heap.size + 1 + 1]? = some (.cells ((widK S A m k).map (Value.int .i64)).toArray 3 (0, 0))
  sq : Sq W B1 B2 qo sn qc S
  bel : Below w.heap.size w W
theorem WdI.below {w : World} {so : Option Addr} {sn sc : Nat} {ao : Option Addr} {an ac m q B1 B2 : Nat} {qo : Option Addr} {qc : Nat} {S A : List Int} {k : Nat} {W W' : World} (h : WdI w so sn sc ao an ac m q B1 B2 qo qc S A k W) (hb : Below W.heap.size W W') : WdI w so sn sc ao an ac m q B1 B2 qo qc S A k W' := by
  have bl : ∀ {B : Nat} {o : Obj}, W.heap[B]? = some o → W'.heap[B]? = some o := fun h => (hb.block _ (Array.getElem?_eq_some_iff.1 h).1).trans h
  exact ⟨bl h.i0, bl h.i1, bl h.i3, bl h.row, h.sq.below hb (Nat.le_refl _), h.bel.trans (hb.mono h.bel.size)⟩
theorem below_grown {w W V : World} {l : Nat} (h : Below w.heap.size w W) (hg : W.grownBy V (some l)) (hl : w.heap.size ≤ l) : Below w.heap.size w V :=
  h.grown hg h.size (fun k e => by cases e; exact hl)
theorem WdI.keptL {w : World} {so : Option Addr} {sn sc : Nat} {ao : Option Addr} {an ac m q B1 B2 : Nat} {qo : Option Addr} {qc : Nat} {S A : List Int} {k l : Nat} {r : Loop} {W W' : World} (h : WdI w so sn sc ao an ac m q B1 B2 qo qc S A k W) (hg : W.grownBy W' (some l)) (hl : W.heap[l]? = some (.loop r)) (hw : w.heap.size ≤ l) : WdI w so sn sc ao an ac m q B1 B2 qo qc S A k W' :=
  ⟨heap_keptL h.i0 (fun r e => by cases e) hg hl, boxed_kept' h.i1 hg hl, boxed_kept' h.i3 hg hl, heap_keptL h.row (fun r e => by cases e) hg hl, ⟨boxed_kept' h.sq.size hg hl, boxed_kept' h.sq.list hg hl, h.sq.rd.keptL hg hl⟩, below_grown h.bel hg hw⟩
theorem WdI.step {w : World} {so : Option Addr} {sn sc : Nat} {ao : Option Addr} {an ac m q B1 B2 : Nat} {qo : Option Addr} {qc : Nat} {S A : List Int} {k l : Nat} {L : Lp} {W V : World} (h : WdI w so sn sc ao an ac m q B1 B2 qo qc S A k W) (hr : L.is .busy none l W) (hb : Below W.heap.size W V)
    (hB1 : w.heap.size + 4 ≤ B1) (hB2 : w.heap.size + 4 ≤ B2) (hqo : ∀ b off, qo = some ⟨b, off, none⟩ → w.heap.size + 4 ≤ b) (hl1 : w.heap.size + 4 ≤ l) (hown : w.heap.size + 4 ≤ L.own) (hc : colN S k < m) :
    L.is .busy none l (V.setCell ⟨w.heap.size + 1 + 1, colN S k, none⟩ (.int .i64 (max (nth (widK S A m k) (colN S k)) ((wrt (nth A k)).length : Int)))) ∧ ∀ W', (V.setCell ⟨w.heap.size + 1 + 1, colN S k, none⟩ (.int .i64 (max (nth (widK S A m k) (colN S k)) ((wrt (nth A k)).length : Int)))).grownBy W' (some l) → WdI w so sn sc ao an ac m q B1 B2 qo qc S A (k + 1) W' := by
  have h1 := h.below hb
  have r1 := hr.below hb (Nat.le_refl _)
  have g4 := set1 V (w.heap.size + 1 + 1) (colN S k) (.int .i64 (max (nth (widK S A m k) (colN S k)) ((wrt (nth A k)).length : Int)))
  have r2 := r1.kept g4 (some_ne (by omega)) (some_ne (by omega))
  have bl : ∀ {B : Nat} {o : Obj}, B ≠ w.heap.size + 1 + 1 → V.heap[B]? = some o → (V.setCell ⟨w.heap.size + 1 + 1, colN S k, none⟩ (.int .i64 (max (nth (widK S A m k) (colN S k)) ((wrt (nth A k)).length : Int)))).heap[B]? = some o := fun {B o} hn h => (g4.block B (Array.getElem?_eq_some_iff.1 h).1 (some_ne hn)).trans h
  have row4 : (V.setCell ⟨w.heap.size + 1 + 1, colN S k, none⟩ (.int .i64 (max (nth (widK S A m k) (colN S k)) ((wrt (nth A k)).length : Int)))).heap[w.heap.size + 1 + 1]? = _ := heap_setCell_same V (w.heap.size + 1 + 1) (colN S k) _ 3 (.int .i64 (max (nth (widK S A m k) (colN S k)) ((wrt (nth A k)).length : Int))) h1.row
  have all : WdI w so sn sc ao an ac m q B1 B2 qo qc S A (k + 1) (V.setCell ⟨w.heap.size + 1 + 1, colN S k, none⟩ (.int .i64 (max (nth (widK S A m k) (colN S k)) ((wrt (nth A k)).length : Int)))) :=
    ⟨bl (by omega) h1.i0, bl (by omega) h1.i1, bl (by omega) h1.i3, by rw [row4]; simp [widK, List.map_set], ⟨bl (by omega) h1.sq.size, bl (by omega) h1.sq.list, h1.sq.rd.kept g4 (fun b o e => some_ne (by have := hqo b o e; omega))⟩, below_grown h1.bel g4 (by omega)⟩
  exact ⟨r2, fun W' hg => all.keptL hg r2.1 (by omega)⟩

set_option linter.unusedSimpArgs false in
set_option maxHeartbeats 8000000 in
set_option maxRecDepth 20000 in
theorem widths_any (so ao : Option Addr) (sn sc an ac : Nat) (S A : List Int) (w : World) (h : Rd w so sn S) (g : Rd w ao an A) (hm : mayF S = 0) (hA : (an : Int) = pr S) (h2 : 2 ≤ sn) (T : Tb w) (m : Nat) (hmm : nth S (sn - 1) = (m : Int)) :
    Calls Tryz.prog 41 #[.agg #[.slice so sn sc, .slice ao an ac]] w fun e w' => ∃ o1, e = .returned (.slice (some o1) m m) ∧ Ft 3 w' w.heap.size (some o1) m m (widK S A m an) ∧ Below w.heap.size w w' := by
  have HS : Hid (S.length = sn) := h.len
  have HM : Hid (mayF S = 0) := hm
  have HA : Hid ((an : Int) = pr S) := hA
  have s8 : sn ≤ 8 := by have := (mayF_zero hm).2.1; rw [h.len] at this; omega
  have hm4 : m ≤ 4096 := by have := nth_small hm (k := sn - 1) (by rw [h.len]; omega); omega
  obtain ⟨sb, soff, rfl, hsb, hsc⟩ := h.cells (by omega)
  have e1 := hsc (sn - 1) (by omega)
  rw [hmm] at e1
  obtain ⟨q, hq⟩ : ∃ q, sn - 1 = q := ⟨_, rfl⟩
  have w1 : (sn : Int) - 1 = (q : Int) := by omega
  have HQ : Hid (sn - 1 = q) := hq
  have HMM : Hid (nth S q = (m : Int)) := by rw [← hq]; exact hmm
  rw [hq] at e1
  have b1 : q < sn := by omega
  have b2 : (q : Int) < (sn : Int) := by omega
  have hmk := run_make_row' (P := Tryz.prog) 25 3 (.int .i64 0) 8 Tryz.underlying25 info3 rfl .i64 .i64 m (by omega) (by omega)
  clear hm hA hsc hmm hq
  refine (callsIn_wide (n := 9)).1 ?_
  refine callsIn_of_wp_marks Tryz.func41 rfl trivial ?_ rfl
  simp only [Tryz.ntmps41, List.size_toArray, List.length_cons, List.length_nil, Nat.reduceAdd, Nat.reduceSub, Array.replicate_succ, Array.replicate_zero, List.push_toArray, List.append_toArray, List.nil_append, List.cons_append]
  have up : ∀ {W : World} {o o' : Obj} {B : Nat}, W.heap[B]? = some o → (W.alloc o').heap[B]? = some o := fun {W o o' B} h => ((box_below W o').block B (Array.getElem?_eq_some_iff.1 h).1).trans h
  have k0 : Below w.heap.size w ((((w.alloc (.cells #[.slice (some ⟨sb, soff, none⟩) sn sc, .slice ao an ac] 36)).alloc (.cells #[.int .i64 (q : Int)] 3)).alloc (.cells (madeCells #[.int .i64 0] m) 3)).alloc (.cells #[.slice (some ⟨w.heap.size + 1 + 1, 0, none⟩) m m] 25)) := (((box_below w _).trans ((box_below _ _).mono (by simp))).trans ((box_below _ _).mono (by simp; omega))).trans ((box_below _ _).mono (by simp; omega))
  have st0 : ∀ {W : World} {B1 B2 : Nat} {qo : Option Addr} {qc : Nat}, Below ((((w.alloc (.cells #[.slice (some ⟨sb, soff, none⟩) sn sc, .slice ao an ac] 36)).alloc (.cells #[.int .i64 (q : Int)] 3)).alloc (.cells (madeCells #[.int .i64 0] m) 3)).alloc (.cells #[.slice (some ⟨w.heap.size + 1 + 1, 0, none⟩) m m] 25)).heap.size ((((w.alloc (.cells #[.slice (some ⟨sb, soff, none⟩) sn sc, .slice ao an ac] 36)).alloc (.cells #[.int .i64 (q : Int)] 3)).alloc (.cells (madeCells #[.int .i64 0] m) 3)).alloc (.cells #[.slice (some ⟨w.heap.size + 1 + 1, 0, none⟩) m m] 25)) W → Sq W B1 B2 qo sn qc S → WdI w (some ⟨sb, soff, none⟩) sn sc ao an ac m q B1 B2 qo qc S A 0 W := fun {W B1 B2 qo qc} hb hq => by
    have bl : ∀ {B : Nat} {o : Obj}, ((((w.alloc (.cells #[.slice (some ⟨sb, soff, none⟩) sn sc, .slice ao an ac] 36)).alloc (.cells #[.int .i64 (q : Int)] 3)).alloc (.cells (madeCells #[.int .i64 0] m) 3)).alloc (.cells #[.slice (some ⟨w.heap.size + 1 + 1, 0, none⟩) m m] 25)).heap[B]? = some o → W.heap[B]? = some o := fun {B o} h => (hb.block B (Array.getElem?_eq_some_iff.1 h).1).trans h
    have n0 := bl (up (up (up (allocNew w (.cells #[.slice (some ⟨sb, soff, none⟩) sn sc, .slice ao an ac] 36)))))
    have n1 := bl (up (up (allocNew (w.alloc (.cells #[.slice (some ⟨sb, soff, none⟩) sn sc, .slice ao an ac] 36)) (.cells #[.int .i64 (q : Int)] 3))))
    have n2 := bl (up (allocNew ((w.alloc (.cells #[.slice (some ⟨sb, soff, none⟩) sn sc, .slice ao an ac] 36)).alloc (.cells #[.int .i64 (q : Int)] 3)) (.cells (madeCells #[.int .i64 0] m) 3)))
    have n3 := bl (allocNew (((w.alloc (.cells #[.slice (some ⟨sb, soff, none⟩) sn sc, .slice ao an ac] 36)).alloc (.cells #[.int .i64 (q : Int)] 3)).alloc (.cells (madeCells #[.int .i64 0] m) 3)) (.cells #[.slice (some ⟨w.heap.size + 1 + 1, 0, none⟩) m m] 25))
    simp only [World.size_alloc] at n1 n2 n3
    rw [made_eqS S A] at n2
    exact ⟨n0, n1, n3, n2, hq, k0.trans (hb.mono k0.size)⟩
  have cA := all_any (some ⟨sb, soff, none⟩) sn sc S ((((w.alloc (.cells #[.slice (some ⟨sb, soff, none⟩) sn sc, .slice ao an ac] 36)).alloc (.cells #[.int .i64 (q : Int)] 3)).alloc (.cells (madeCells #[.int .i64 0] m) 3)).alloc (.cells #[.slice (some ⟨w.heap.size + 1 + 1, 0, none⟩) m m] 25)) (h.below k0 (Nat.le_refl _))
  gi_wp2_with (refine ⟨trivial, ?_⟩; gi_at_call 42; refine (callsIn_wide.2 cA).mono ?_; rintro e w4 ⟨B1, B2, qo, qc, rfl, hq4, hf4, hB1, hB2, hb4⟩)
  have st := st0 hb4 hq4
  simp only [World.size_alloc] at hB1 hB2 hf4
  have hw4 : w.heap.size + 4 ≤ w4.heap.size := by have := hb4.size; simp at this; omega
  have hqo : ∀ b off, qo = some ⟨b, off, none⟩ → w.heap.size + 4 ≤ b := fun b off e => by
    rcases hf4.own.2 with ⟨e2, _⟩ | ⟨g, cc, cur, e2, hg, _⟩
    · cases e2; cases e
    · cases e2; cases e; omega
  have hpb := pr_le HM.out
  clear hq4 hf4 hb4 hmk cA k0 e1
  clear st0 up
  refine range_over (gf := 63) (lb := #[.pointer (some ⟨B1, 0, none⟩), .pointer (some ⟨B2, 0, none⟩)]) rfl (enters_of Tryz.func63 (by kernel_rfl) rfl) (WdI w (some ⟨sb, soff, none⟩) sn sc ao an ac m q B1 B2 qo qc S A (pr S).toNat) (fun _ _ => False) ?it ?done ?stop
  case stop => exact fun _ _ _ h => h.elim
  case done =>
    intro W hD hI
    have e0 : (pr S).toNat = an := by have := HA.out; omega
    rw [e0] at hI
    have x3 := hI.i3.cell
    gi_wp2
    refine ⟨by simp, .inl ⟨_, _, rfl, run_takeDeferred hD, ?_⟩⟩
    have g1 := grownBy_putObj' W w4.heap.size (.deferred none)
    have row1 := (g1.block _ (Array.getElem?_eq_some_iff.1 hI.row).1 (fun e => by have := Option.some.inj e; omega)).trans hI.row
    have bel1 := below_grown hI.bel g1 (by omega)
    have wl := widK_len S A m an
    have wn := widK_nn S A m (in64_of g) an
    refine ⟨_, results_tmp rfl _ _ _, ⟨w.heap.size + 1 + 1, 0, none⟩, rfl, ?_, bel1⟩
    exact Ft.row (cap := m) (zs := widK S A m an) row1 (by omega) wl (by omega) (fun j hj => by have := wn j; omega) (Nat.le_refl _) (by unfold maxLen; omega) (by simp [wl]) (by rw [List.take_of_length_le (by simp [wl])])
  case it =>
    intro L l W eT eP eA eB eO el hr hb hs5
    have hl1 : w.heap.size + 4 ≤ l := by omega
    have hown : w.heap.size + 4 ≤ L.own := by omega
    have st1 := st.below (hb.mono (by omega))
    clear el hs5 hb st eO
    refine (all1_range 8 l B1 B2 (by omega) qo sn qc S HM.out (fun k W => L.is .ready none l W ∧ WdI w (some ⟨sb, soff, none⟩) sn sc ao an ac m q B1 B2 qo qc S A k W) ?hJ ?hJb ?hY W ⟨hr, st1⟩).mono ?_
    case hJ => exact fun k W hJ => hJ.2.sq
    case hJb => exact fun k W W' hJ hb => ⟨hJ.1.below hb (Nat.le_refl _), hJ.2.below hb⟩
    case hY =>
      rintro k W0 W1 lo lc hk ⟨hr1, hi1⟩ hsz ⟨hr0, hi0⟩ hf
      clear hr st1 W
      refine YieldAt.mono (yield_round (K := WdI w (some ⟨sb, soff, none⟩) sn sc ao an ac m q B1 B2 qo qc S A (k + 1)) (X := fun _ _ => False) eT eP eA eB hr1 rfl ?_) ?_
      · clear eT eP eA eB hr0 hi0
        gi_wp2
        refine ⟨hr1, fun W2 hr2 hg2 => ?_⟩
        have hi2 := hi1.keptL hg2 hr1.1 (by omega)
        have hf2 := hf.rd.keptL hg2 hr1.1
        clear hg2 hi1 hr1 hf hsz
        have hkn : k < an := by have := HA.out; omega
        obtain ⟨ab, aoff, rfl, _, ac3⟩ := (g.below hi2.bel (Nat.le_refl _)).cells (by omega)
        have x5 := ac3 k hkn
        have hz := g.num k hkn
        have hcol := col_ok HM.out HS.out (by omega) hk
        rw [HQ.out] at hcol
        obtain ⟨hco, hcm⟩ := hcol m HMM.out
        obtain ⟨lb, loff, rfl, _, lcs⟩ := hf2.cells (by omega)
        have x6 := lcs q (by omega)
        rw [hco] at x6
        have x1 := hi2.i1.cell
        have stp := fun V1 (K1 : Below W2.heap.size W2 V1) => hi2.step hr2 K1 (by omega) (by omega) hqo hl1 hown hcm
        have cW := written_any (nth A k) W2.drew hz.1 hz.2 ((T.below hi2.bel).below (Below.refl _ W2).drew)
        have old2 : nth (widK S A m k) (colN S k) = nth (widK S A m k) (colN S k) := rfl
        have hcell : ∀ V, Below W2.heap.size W2 V → V.cell? ⟨w.heap.size + 1 + 1, colN S k, none⟩ = some (.int .i64 (nth (widK S A m k) (colN S k))) := fun V kV => (cell_of_row V _ (colN S k) _ _ (0, 0) (hi2.below kV).row).trans (row_cell (by rw [widK_len]; exact hcm))
        have ALLS0 : ∀ V, Below W2.heap.size W2 V → V.cell? ⟨w.heap.size + 1 + 1 + 1, 0, none⟩ = some (.slice (some ⟨w.heap.size + 1 + 1, 0, none⟩) m m) ∧ V.cell? ⟨w.heap.size + 1 + 1, colN S k, none⟩ = some (.int .i64 (nth (widK S A m k) (colN S k))) ∧ V.cell? ⟨w.heap.size, 1, none⟩ = some (.slice (some ⟨ab, aoff, none⟩) an ac) ∧ V.cell? ⟨ab, aoff + k, none⟩ = some (.int .i64 (nth A k)) ∧ Below W2.heap.size W2 V := fun V kV => by
          obtain ⟨ab', aoff', e', _, ac4⟩ := (g.below (hi2.below kV).bel (Nat.le_refl _)).cells (by omega)
          cases e'
          exact ⟨(hi2.below kV).i3.cell, hcell V kV, (box2 (hi2.below kV).i0).2.1, ac4 k hkn, kV⟩
        have bm : ((colN S k : Nat) : Int) < (m : Int) := by omega
        have ba : (k : Int) < (an : Int) := by omega
        clear hcell old2 lcs ac3 hz
        generalize nth (widK S A m k) (colN S k) = old at *
        generalize nth A k = av at *
        generalize colN S k = co at *
        have ALLS := ALLS0
        have HS0 := ALLS W2.drew (Below.refl _ W2).drew
        clear ALLS0
        gi_wp2
        refine wp_roundR (fun V => V.cell? ⟨w.heap.size + 1 + 1 + 1, 0, none⟩ = some (.slice (some ⟨w.heap.size + 1 + 1, 0, none⟩) m m) ∧ V.cell? ⟨w.heap.size + 1 + 1, co, none⟩ = some (.int .i64 old) ∧ V.cell? ⟨w.heap.size, 1, none⟩ = some (.slice (some ⟨ab, aoff, none⟩) an ac) ∧ V.cell? ⟨ab, aoff + k, none⟩ = some (.int .i64 av) ∧ Below W2.heap.size W2 V) (fun i => i != 15) (by kernel_rfl) (by kernel_rfl) (by rintro ⟨_, _, h⟩; exact h) ?_
        refine wpAnyR_take (i := 0) (v := .slice (some ⟨w.heap.size + 1 + 1, 0, none⟩) m m) rfl (by kernel_rfl) (by kernel_rfl) (by kernel_rfl) (by kernel_rfl) (fun _ _ _ h => h) (Or.inl ⟨by rfl, fun V hV => ?_⟩) ?_ ?_
        · obtain ⟨g0, g1, g2, g3, g4⟩ := hV
          go_simp
        · exact HS0
        (try (conv => arg 9; simp [Act.put]))
        refine wpAnyR_take (i := 1) (v := .int .i64 (co : Int)) rfl (by kernel_rfl) (by kernel_rfl) (by kernel_rfl) (by kernel_rfl) (fun _ _ _ h => h) (Or.inl ⟨by rfl, fun V hV => ?_⟩) ?_ ?_
        · obtain ⟨g0, g1, g2, g3, g4⟩ := hV
          go_simp
        · exact HS0
        (try (conv => arg 9; simp [Act.put]))
        refine wpAnyR_take (i := 2) (v := .slice (some ⟨w.heap.size + 1 + 1, 0, none⟩) m m) rfl (by kernel_rfl) (by kernel_rfl) (by kernel_rfl) (by kernel_rfl) (fun _ _ _ h => h) (Or.inl ⟨by rfl, fun V hV => ?_⟩) ?_ ?_
        · obtain ⟨g0, g1, g2, g3, g4⟩ := hV
          go_simp
        · exact HS0
        (try (conv => arg 9; simp [Act.put]))
        refine wpAnyR_take (i := 3) (v := .int .i64 (co : Int)) rfl (by kernel_rfl) (by kernel_rfl) (by kernel_rfl) (by kernel_rfl) (fun _ _ _ h => h) (Or.inl ⟨by rfl, fun V hV => ?_⟩) ?_ ?_
        · obtain ⟨g0, g1, g2, g3, g4⟩ := hV
          go_simp
        · exact HS0
        (try (conv => arg 9; simp [Act.put]))
        refine wpAnyR_take (i := 4) (v := .pointer (some ⟨w.heap.size + 1 + 1, co, none⟩)) rfl (by kernel_rfl) (by kernel_rfl) (by kernel_rfl) (by kernel_rfl) (fun _ _ _ h => h) (Or.inl ⟨by rfl, fun V hV => ?_⟩) ?_ ?_
        · obtain ⟨g0, g1, g2, g3, g4⟩ := hV
          go_simp
        · exact HS0
        (try (conv => arg 9; simp [Act.put]))
        refine wpAnyR_take (i := 5) (v := .int .i64 old) rfl (by kernel_rfl) (by kernel_rfl) (by kernel_rfl) (by kernel_rfl) (fun _ _ _ h => h) (Or.inl ⟨by rfl, fun V hV => ?_⟩) ?_ ?_
        · obtain ⟨g0, g1, g2, g3, g4⟩ := hV
          go_simp
        · exact HS0
        (try (conv => arg 9; simp [Act.put]))
        refine wpAnyR_take (i := 6) (v := .pointer (some ⟨w.heap.size, 1, none⟩)) rfl (by kernel_rfl) (by kernel_rfl) (by kernel_rfl) (by kernel_rfl) (fun _ _ _ h => h) (Or.inl ⟨by rfl, fun V hV => ?_⟩) ?_ ?_
        · obtain ⟨g0, g1, g2, g3, g4⟩ := hV
          go_simp
        · exact HS0
        (try (conv => arg 9; simp [Act.put]))
        refine wpAnyR_take (i := 7) (v := .slice (some ⟨ab, aoff, none⟩) an ac) rfl (by kernel_rfl) (by kernel_rfl) (by kernel_rfl) (by kernel_rfl) (fun _ _ _ h => h) (Or.inl ⟨by rfl, fun V hV => ?_⟩) ?_ ?_
        · obtain ⟨g0, g1, g2, g3, g4⟩ := hV
          go_simp
        · exact HS0
        (try (conv => arg 9; simp [Act.put]))
        refine wpAnyR_take (i := 8) (v := .int .i64 (k : Int)) rfl (by kernel_rfl) (by kernel_rfl) (by kernel_rfl) (by kernel_rfl) (fun _ _ _ h => h) (Or.inl ⟨by rfl, fun V hV => ?_⟩) ?_ ?_
        · obtain ⟨g0, g1, g2, g3, g4⟩ := hV
          go_simp
        · exact HS0
        (try (conv => arg 9; simp [Act.put]))
        refine wpAnyR_take (i := 9) (v := .pointer (some ⟨ab, aoff + k, none⟩)) rfl (by kernel_rfl) (by kernel_rfl) (by kernel_rfl) (by kernel_rfl) (fun _ _ _ h => h) (Or.inl ⟨by rfl, fun V hV => ?_⟩) ?_ ?_
        · obtain ⟨g0, g1, g2, g3, g4⟩ := hV
          go_simp
        · exact HS0
        (try (conv => arg 9; simp [Act.put]))
        refine wpAnyR_take (i := 10) (v := .int .i64 av) rfl (by kernel_rfl) (by kernel_rfl) (by kernel_rfl) (by kernel_rfl) (fun _ _ _ h => h) (Or.inl ⟨by rfl, fun V hV => ?_⟩) ?_ ?_
        · obtain ⟨g0, g1, g2, g3, g4⟩ := hV
          go_simp
        · exact HS0
        (try (conv => arg 9; simp [Act.put]))
        refine wpAnyR_one (i := 11) (by kernel_rfl) rfl (fun K hK => ?_)
        go_simp
        go_wp2_with (go_at_call 39; (with_reducible refine cW.mono ?_); rintro e V1 ⟨rfl, k1⟩)
        have K1 : Below W2.heap.size W2 V1 := (Below.refl _ W2).drew.trans (k1.mono (Nat.le_refl _))
        have HS1 := ALLS V1 K1
        refine ⟨fun _ => HS1, ?_⟩
        (try (conv => arg 9; simp [Act.put]))
        refine wpAnyR_take (i := 12) (v := .int .i64 ((wrt av).length : Int)) rfl (by kernel_rfl) (by kernel_rfl) (by kernel_rfl) (by kernel_rfl) (fun _ _ _ h => h) (Or.inl ⟨by rfl, fun V hV => ?_⟩) ?_ ?_
        · obtain ⟨g0, g1, g2, g3, g4⟩ := hV
          go_simp
        · exact HS1
        (try (conv => arg 9; simp [Act.put]))
        refine wpAnyR_take (i := 13) (v := .int .i64 (max old ((wrt av).length : Int))) rfl (by kernel_rfl) (by kernel_rfl) (by kernel_rfl) (by kernel_rfl) (fun _ _ _ h => h) (Or.inl ⟨by rfl, fun V hV => ?_⟩) ?_ ?_
        · obtain ⟨g0, g1, g2, g3, g4⟩ := hV
          go_simp
        · exact HS1
        (try (conv => arg 9; simp [Act.put]))
        refine wpAnyR_take (i := 14) (v := .pointer (some ⟨w.heap.size + 1 + 1, co, none⟩)) rfl (by kernel_rfl) (by kernel_rfl) (by kernel_rfl) (by kernel_rfl) (fun _ _ _ h => h) (Or.inl ⟨by rfl, fun V hV => ?_⟩) ?_ ?_
        · obtain ⟨g0, g1, g2, g3, g4⟩ := hV
          go_simp
        · exact HS1
        (try (conv => arg 9; simp [Act.put]))
        refine wpAnyR_one (i := 15) (by kernel_rfl) rfl (fun K hK => ?_)
        obtain ⟨f0, f1, f2, f3, f4⟩ := HS1
        have fz := frozen_of_row V1 (w.heap.size + 1 + 1) co _ _ (hi2.below K1).row
        go_simp
        refine hK _ _ ⟨fun h => absurd h (by decide), ?_⟩
        clear hK
        (try (conv => arg 9; simp [Act.put]))
        refine wpAnyR_done (by kernel_rfl) ?_ _
        gi_wp2
        exact stp V1 K1
      · rintro e W2 (⟨rfl, h1, h2⟩ | ⟨_, c, _, h⟩)
        · exact ⟨rfl, h1, h2⟩
        · exact h.elim
    · rintro e W1 ⟨hv, hr1, hi1⟩
      exact ⟨hv, .inl ⟨hr1, fun W2 hg => hi1.keptL hg hr1.1 (by omega)⟩⟩
end Go.Proofs.YtppcfpiihkaopaaGreatDoor
