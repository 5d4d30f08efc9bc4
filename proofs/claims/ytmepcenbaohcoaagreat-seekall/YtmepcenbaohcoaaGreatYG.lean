
/- Contracts of package seek: the places of items, in the order in which they rise or fall. -/

import Derived.Test.YtmepcenbaohcoaaGreatYF

namespace Go.Proofs.YtmepcenbaohcoaaGreat

open Go.RowKit

set_option linter.unusedVariables false

/-- How two items stand to one another, rising or falling. -/
def cUp (xs : Nat → List Int × List Int) (x y : Int) : Int := cmpA (xs x.toNat).1 (xs x.toNat).2 (xs y.toNat).1 (xs y.toNat).2
def cDn (xs : Nat → List Int × List Int) (x y : Int) : Int := cUp xs y x
theorem cUp_le (xs : Nat → List Int × List Int) {x y z : Int} (h1 : cUp xs x y ≤ 0) (h2 : cUp xs y z ≤ 0) : cUp xs x z ≤ 0 := by
  have t := cmpA_T3 (xs x.toNat).1 (xs x.toNat).2 (xs y.toNat).1 (xs y.toNat).2 (xs z.toNat).1 (xs z.toNat).2
  unfold cUp at *
  exact (t.le h1 h2).1
theorem cUp_anti (xs : Nat → List Int × List Int) (x y : Int) : cUp xs y x = - cUp xs x y := cmpA_anti _ _ _ _
theorem cUp3 (N : Nat) (xs : Nat → List Int × List Int) : Cmp3 N (cUp xs) := ⟨fun x y _ _ _ _ => cUp_anti xs x y, fun x y z _ _ _ _ _ _ h1 h2 => cUp_le xs h1 h2⟩
theorem cDn3 (N : Nat) (xs : Nat → List Int × List Int) : Cmp3 N (cDn xs) := ⟨fun x y _ _ _ _ => cUp_anti xs y x, fun x y z _ _ _ _ _ _ h1 h2 => cUp_le xs h2 h1⟩
/-- What the closure tells that compares two items by their places. -/
def CmF (F : Nat) (io : Option Addr) (n ic : Nat) (xs : Nat → List Int × List Int) (c : Int → Int → Int) : Prop := ∀ (V : World) (p q : Addr), V.cell? p = some (.func (.func F) #[] #[]) → V.cell? q = some (.slice io n ic) → AsQ V io n xs → ∀ x y : Int, 0 ≤ x → x < n → 0 ≤ y → y < n →
  Calls Tryz.prog 102 #[.int .i64 x, .int .i64 y, .pointer (some p), .pointer (some q)] V fun e w' => e = .returned (.int .i64 (c x y)) ∧ Below V.heap.size V w'

set_option maxHeartbeats 1000000 in
theorem fall1_any (so ao uo bo : Option Addr) (sn sc an ac tn tc bn bc : Nat) (s a t b : List Int) (w : World) (hs : Rd w so sn s) (ha : Rd w ao an a) (ht : Rd w uo tn t) (hb : Rd w bo bn b) :
    Calls Tryz.prog 90 #[.agg #[.slice so sn sc, .slice ao an ac], .agg #[.slice uo tn tc, .slice bo bn bc]] w fun e w' => e = .returned (.int .i64 (cmpA t b s a)) ∧ Below w.heap.size w w' := by
  have k1 := box_below w (.cells #[.slice so sn sc, .slice ao an ac] 30)
  have k2 := box_below (w.alloc (.cells #[.slice so sn sc, .slice ao an ac] 30)) (.cells #[.slice uo tn tc, .slice bo bn bc] 30)
  have kk := k1.trans (k2.mono (by simp))
  have hc := cmpA_any uo bo so ao tn tc bn bc sn sc an ac t b s a _ (ht.below kk (Nat.le_refl _)) (hb.below kk (Nat.le_refl _)) (hs.below kk (Nat.le_refl _)) (ha.below kk (Nat.le_refl _))
  go_enter Tryz.func90, Tryz.ntmps90
  go_wp2_with (go_at_call 86; (with_reducible refine hc.mono ?_); rintro e w2 ⟨rfl, h2⟩)
  go_ret
  exact ⟨rfl, kk.trans (h2.mono (by simp; omega))⟩

set_option maxHeartbeats 2000000 in
theorem ord1_up (io : Option Addr) (n ic : Nat) (xs : Nat → List Int × List Int) : CmF 86 io n ic xs (cUp xs) := by
  intro V p q hp hq has x y x0 xn y0 yn
  obtain ⟨i, rfl⟩ : ∃ i : Nat, x = i := ⟨x.toNat, by omega⟩
  obtain ⟨j, rfl⟩ : ∃ j : Nat, y = j := ⟨y.toNat, by omega⟩
  obtain ⟨b, off, rfl, hb, hc⟩ := has.cells (by omega)
  obtain ⟨so, sn, sc, uo, tn, tc, a1, a2, a3, a4, a5, a6⟩ := hc i (by omega)
  obtain ⟨so', sn', sc', uo', tn', tc', c1, c2, c3, c4, c5, c6⟩ := hc j (by omega)
  have hpl := World.block_lt_of_cell? V _ hp
  have hql := World.block_lt_of_cell? V _ hq
  have bi : (i : Int) < (n : Int) := by omega
  have bj : (j : Int) < (n : Int) := by omega
  have al : ∀ U, Below V.heap.size V U → U.cell? p = some (.func (.func 86) #[] #[]) ∧ U.cell? q = some (.slice (some ⟨b, off, none⟩) n ic) ∧ U.cell? ⟨b, off + i * 2, none⟩ = some (.slice so sn sc) ∧ U.cell? ⟨b, off + i * 2 + 1, none⟩ = some (.slice uo tn tc) ∧ U.cell? ⟨b, off + j * 2, none⟩ = some (.slice so' sn' sc') ∧ U.cell? ⟨b, off + j * 2 + 1, none⟩ = some (.slice uo' tn' tc') ∧ Below V.heap.size V U := fun U hU =>
    ⟨(hU.cell (p := p) hpl).trans hp, (hU.cell (p := q) hql).trans hq, (hU.cell (p := ⟨b, off + i * 2, none⟩) hb).trans a1, (hU.cell (p := ⟨b, off + i * 2 + 1, none⟩) hb).trans a2, (hU.cell (p := ⟨b, off + j * 2, none⟩) hb).trans c1, (hU.cell (p := ⟨b, off + j * 2 + 1, none⟩) hb).trans c2, hU⟩
  have hcm : ∀ U, Below V.heap.size V U → Calls Tryz.prog 86 #[.agg #[.slice so sn sc, .slice uo tn tc], .agg #[.slice so' sn' sc', .slice uo' tn' tc']] U fun e w' => e = .returned (.int .i64 (cUp xs (i : Int) (j : Int))) ∧ Below V.heap.size V w' := fun U hU => by
    have := cmpA_any so uo so' uo' sn sc tn tc sn' sc' tn' tc' _ _ _ _ U (a3.below hU (Nat.le_refl _)) (a5.below hU (Nat.le_refl _)) (c3.below hU (Nat.le_refl _)) (c5.below hU (Nat.le_refl _))
    exact this.mono fun e w' ⟨e1, e2⟩ => ⟨e1, hU.trans (e2.mono hU.size)⟩
  generalize cUp xs (i : Int) (j : Int) = r at *
  clear hc a3 a4 a5 a6 c3 c4 c5 c6 has
  go_enter Tryz.func102, Tryz.ntmps102
  go_wp2
  go_region_held3 (fun U => U.cell? p = some (.func (.func 86) #[] #[]) ∧ U.cell? q = some (.slice (some ⟨b, off, none⟩) n ic) ∧ U.cell? ⟨b, off + i * 2, none⟩ = some (.slice so sn sc) ∧ U.cell? ⟨b, off + i * 2 + 1, none⟩ = some (.slice uo tn tc) ∧ U.cell? ⟨b, off + j * 2, none⟩ = some (.slice so' sn' sc') ∧ U.cell? ⟨b, off + j * 2 + 1, none⟩ = some (.slice uo' tn' tc') ∧ Below V.heap.size V U) (first | exact al _ (by assumption) | exact al _ (Below.refl _ _).drew | exact al _ (Below.refl _ _))
    (first
      | (go_at_call 86; (with_reducible refine (hcm _ (‹_ ∧ _ ∧ _ ∧ _ ∧ _ ∧ _ ∧ Below V.heap.size V _›).2.2.2.2.2.2).mono ?_); rintro e w5 ⟨rfl, b5⟩))
  go_wp2
  go_ret
  exact ⟨rfl, b5⟩

set_option maxHeartbeats 2000000 in
theorem ord1_dn (io : Option Addr) (n ic : Nat) (xs : Nat → List Int × List Int) : CmF 90 io n ic xs (cDn xs) := by
  intro V p q hp hq has x y x0 xn y0 yn
  obtain ⟨i, rfl⟩ : ∃ i : Nat, x = i := ⟨x.toNat, by omega⟩
  obtain ⟨j, rfl⟩ : ∃ j : Nat, y = j := ⟨y.toNat, by omega⟩
  obtain ⟨b, off, rfl, hb, hc⟩ := has.cells (by omega)
  obtain ⟨so, sn, sc, uo, tn, tc, a1, a2, a3, a4, a5, a6⟩ := hc i (by omega)
  obtain ⟨so', sn', sc', uo', tn', tc', c1, c2, c3, c4, c5, c6⟩ := hc j (by omega)
  have hpl := World.block_lt_of_cell? V _ hp
  have hql := World.block_lt_of_cell? V _ hq
  have bi : (i : Int) < (n : Int) := by omega
  have bj : (j : Int) < (n : Int) := by omega
  have al : ∀ U, Below V.heap.size V U → U.cell? p = some (.func (.func 90) #[] #[]) ∧ U.cell? q = some (.slice (some ⟨b, off, none⟩) n ic) ∧ U.cell? ⟨b, off + i * 2, none⟩ = some (.slice so sn sc) ∧ U.cell? ⟨b, off + i * 2 + 1, none⟩ = some (.slice uo tn tc) ∧ U.cell? ⟨b, off + j * 2, none⟩ = some (.slice so' sn' sc') ∧ U.cell? ⟨b, off + j * 2 + 1, none⟩ = some (.slice uo' tn' tc') ∧ Below V.heap.size V U := fun U hU =>
    ⟨(hU.cell (p := p) hpl).trans hp, (hU.cell (p := q) hql).trans hq, (hU.cell (p := ⟨b, off + i * 2, none⟩) hb).trans a1, (hU.cell (p := ⟨b, off + i * 2 + 1, none⟩) hb).trans a2, (hU.cell (p := ⟨b, off + j * 2, none⟩) hb).trans c1, (hU.cell (p := ⟨b, off + j * 2 + 1, none⟩) hb).trans c2, hU⟩
  have hcm : ∀ U, Below V.heap.size V U → Calls Tryz.prog 90 #[.agg #[.slice so sn sc, .slice uo tn tc], .agg #[.slice so' sn' sc', .slice uo' tn' tc']] U fun e w' => e = .returned (.int .i64 (cDn xs (i : Int) (j : Int))) ∧ Below V.heap.size V w' := fun U hU => by
    have := fall1_any so uo so' uo' sn sc tn tc sn' sc' tn' tc' _ _ _ _ U (a3.below hU (Nat.le_refl _)) (a5.below hU (Nat.le_refl _)) (c3.below hU (Nat.le_refl _)) (c5.below hU (Nat.le_refl _))
    exact this.mono fun e w' ⟨e1, e2⟩ => ⟨e1, hU.trans (e2.mono hU.size)⟩
  generalize cDn xs (i : Int) (j : Int) = r at *
  clear hc a3 a4 a5 a6 c3 c4 c5 c6 has
  go_enter Tryz.func102, Tryz.ntmps102
  go_wp2
  go_region_held3 (fun U => U.cell? p = some (.func (.func 90) #[] #[]) ∧ U.cell? q = some (.slice (some ⟨b, off, none⟩) n ic) ∧ U.cell? ⟨b, off + i * 2, none⟩ = some (.slice so sn sc) ∧ U.cell? ⟨b, off + i * 2 + 1, none⟩ = some (.slice uo tn tc) ∧ U.cell? ⟨b, off + j * 2, none⟩ = some (.slice so' sn' sc') ∧ U.cell? ⟨b, off + j * 2 + 1, none⟩ = some (.slice uo' tn' tc') ∧ Below V.heap.size V U) (first | exact al _ (by assumption) | exact al _ (Below.refl _ _).drew | exact al _ (Below.refl _ _))
    (first
      | (go_at_call 90; (with_reducible refine (hcm _ (‹_ ∧ _ ∧ _ ∧ _ ∧ _ ∧ _ ∧ Below V.heap.size V _›).2.2.2.2.2.2).mono ?_); rintro e w5 ⟨rfl, b5⟩))
  go_wp2
  go_ret
  exact ⟨rfl, b5⟩

theorem made_ftQ (e : TypeId) (w : World) (n : Nat) (hr : n * 8 ≤ 140737488351232) : Ft e (w.alloc (.cells (madeCells #[.int .i64 0] n) e)) w.heap.size (some ⟨w.heap.size, 0, none⟩) n n (List.replicate n 0) := by
  have hown : (w.alloc (.cells (madeCells #[.int .i64 0] n) e)).ownsRow w.heap.size e 1 (.slice (some ⟨w.heap.size, 0, none⟩) n n) n ((List.replicate n 0).map (Value.int .i64)) := by
    refine ⟨by simp, .inr ⟨w.heap.size, n, madeCells #[.int .i64 0] n, rfl, by omega, allocNew _ _, Nat.le_refl _, by unfold maxLen; omega, by simp [madeCells], ?_⟩⟩
    rw [Nat.mul_one]
    apply List.ext_getElem
    · simp [madeCells]
    · intro i h1 h2; simp [madeCells, Nat.mod_one]
  obtain ⟨a, c, e, hf⟩ := Ft.mk' (zs := List.replicate n 0) (by simp) hr (fun k hk => by simp [nth, hk]) hown
  cases e
  exact hf
theorem Ro.set {g n : Nat} {W V : World} {zs : List Int} (h : Ro g n W V zs) {i : Nat} (hi : i < n) (u : Int) (h1 : -9223372036854775808 ≤ u) (h2 : u ≤ 9223372036854775807) :
    Ro g n W (V.setCell ⟨g, i, none⟩ (.int .i64 u)) (zs.set i u) := ⟨h.bel.setCell (p := ⟨g, i, none⟩) (Nat.le_refl _) _, h.row.setY i hi u h1 h2⟩
theorem infoIQ : (Tryz.prog.info? 3).map (fun i => (i.zero, i.size, i.bytes)) = some (some (.int .i64 0), 1, 8) := by kernel_rfl
theorem Ro.made (U : World) (n : Nat) (hn : n ≤ 5000) : Ro U.heap.size n U (U.alloc (.cells (madeCells #[.int .i64 0] n) 3)) (List.replicate n 0) := ⟨box_below _ _, made_ftQ 3 U n (by omega)⟩
/-- The places of n items, in order. -/
structure Pls (c : Int → Int → Int) (n : Nat) (ps : List Int) : Prop where
  len : ps.length = n
  inn : inN n ps
  so : So c ps 0 n

set_option maxHeartbeats 4000000 in
set_option maxRecDepth 20000 in
theorem order_any (F : Nat) (io : Option Addr) (n ic : Nat) (xs : Nat → List Int × List Int) (c : Int → Int → Int) (w : World) (h : AsQ w io n xs) (hn : n ≤ 4096) (hF : CmF F io n ic xs c) (hc : Cmp3 n c) :
    Calls Tryz.prog 88 #[.slice io n ic, .func (.func F) #[] #[]] w fun e w' => ∃ g ps, e = .returned (.slice (some ⟨g, 0, none⟩) n n) ∧ Ft 3 w' w.heap.size (some ⟨g, 0, none⟩) n n ps ∧ Pls c n ps ∧ Below w.heap.size w w' := by
  have k1 := box_below w (.cells #[.slice io n ic] 55)
  have b1 := allocNew w (.cells #[.slice io n ic] 55)
  have k2 := box_below (w.alloc (.cells #[.slice io n ic] 55)) (.cells #[.func (.func F) #[] #[]] 72)
  have b2 := allocNew (w.alloc (.cells #[.slice io n ic] 55)) (.cells #[.func (.func F) #[] #[]] 72)
  have kk := k1.trans (k2.mono (by simp))
  have cI : ((w.alloc (.cells #[.slice io n ic] 55)).alloc (.cells #[.func (.func F) #[] #[]] 72)).cell? ⟨w.heap.size, 0, none⟩ = some (.slice io n ic) := (k2.cell (p := ⟨w.heap.size, 0, none⟩) (by simp)).trans ((cell_of_row _ _ 0 _ _ (0, 0) b1).trans rfl)
  have cF : ((w.alloc (.cells #[.slice io n ic] 55)).alloc (.cells #[.func (.func F) #[] #[]] 72)).cell? ⟨w.heap.size + 1, 0, none⟩ = some (.func (.func F) #[] #[]) := by
    rw [World.size_alloc] at b2
    exact (cell_of_row _ _ 0 _ _ (0, 0) b2).trans rfl
  have hsz : ((w.alloc (.cells #[.slice io n ic] 55)).alloc (.cells #[.func (.func F) #[] #[]] 72)).heap.size = w.heap.size + 1 + 1 := by simp
  have hA := h.below kk (Nat.le_refl _)
  have hmk := fun (X : World) => run_make_row' (P := Tryz.prog) 25 3 (.int .i64 0) 8 Tryz.underlying25 infoIQ rfl .i64 .i64 n (by omega) (by omega) X
  have HF : Hid (CmF F io n ic xs c) := hF
  have HC : Hid (Cmp3 n c) := hc
  clear hF hc b1 b2 k1 k2 h
  go_enter Tryz.func88, Tryz.ntmps88
  go_wp2
  have R0 := Ro.made ((w.alloc (.cells #[.slice io n ic] 55)).alloc (.cells #[.func (.func F) #[] #[]] 72)) n (by omega)
  rw [hsz] at R0
  generalize ((w.alloc (.cells #[.slice io n ic] 55)).alloc (.cells #[.func (.func F) #[] #[]] 72)) = U at *
  have HS : Hid (U.heap.size = w.heap.size + 1 + 1) := hsz
  clear hmk hsz
  go_loopw [12] (fun i V => ∃ (k : Nat) (zs : List Int), k ≤ n ∧ i = .int .i64 (k : Nat) ∧ Ro (w.heap.size + 1 + 1) n U V zs ∧ ∀ j, j < k → nth zs j = j) (fun i _ => n - (intOf i).toNat)
  case atStart => exact ⟨0, _, Nat.zero_le _, rfl, R0, fun j hj => by omega⟩
  case round =>
    obtain ⟨k, zs, hk, rfl, R, Z⟩ := hrel
    clear R0
    by_cases hlt : k < n
    · have t1 : decide ((k : Int) < (n : Int)) = true := by simp; omega
      have bk : (k : Int) < (n : Int) := by omega
      have wk := wrY (z := (k : Int) + 1) (by omega) (by omega)
      obtain ⟨c1, f1⟩ := R.slot hlt
      have R2 := R.set hlt (k : Int) (by omega) (by omega)
      go_wp2
      go_roundw
      case rel => exact ⟨k + 1, _, by omega, by go_num, R2, fun j hj => by
        rw [nth_setY (by rw [R.len]; exact hlt)]
        split
        · rename_i e; rw [e]
        · exact Z j (by omega)⟩
      case measure => simp [intOf]; omega
    · obtain rfl : k = n := by omega
      have t1 : decide ((k : Int) < (k : Int)) = false := by simp
      have hN : inN k zs := fun j hj => by rw [R.len] at hj; rw [Z j hj]; omega
      have hso := sortS_any (w.heap.size + 1 + 1) k (some ⟨w.heap.size + 1, 0, none⟩) (some ⟨w.heap.size, 0, none⟩) c U _ zs R k HC.out (fun V hV x y x0 x1 y0 y1 => HF.out V _ _ ((hV.cell (p := ⟨w.heap.size + 1, 0, none⟩) (show w.heap.size + 1 < w.heap.size + 1 + 1 by omega)).trans cF) ((hV.cell (p := ⟨w.heap.size, 0, none⟩) (show w.heap.size < w.heap.size + 1 + 1 by omega)).trans cI) (hA.below hV (by rw [HS.out]; exact Nat.le_refl _)) x y x0 x1 y0 y1) hN (by omega) (fun i j i1 i2 => by rw [Z i (by omega), Z j i2]; omega)
      unfold ordV at hso
      go_wp2_with (first | (go_at_call 101; (with_reducible refine hso.mono ?_); rintro e w2 ⟨⟨v, rfl⟩, ys, R2, P2, S2⟩))
      go_ret
      exact ⟨w.heap.size + 1 + 1, ys, rfl, R2.row.mono (by omega), ⟨R2.len, hN.mv P2 (by rw [R.len]; exact Nat.le_refl _), S2⟩, kk.trans (R2.bel.mono (by omega))⟩

set_option maxHeartbeats 400000 in
theorem rising_any (io : Option Addr) (n ic : Nat) (xs : Nat → List Int × List Int) (w : World) (h : AsQ w io n xs) (hn : n ≤ 4096) :
    Calls Tryz.prog 70 #[.slice io n ic] w fun e w' => ∃ g ps, e = .returned (.slice (some ⟨g, 0, none⟩) n n) ∧ Ft 3 w' w.heap.size (some ⟨g, 0, none⟩) n n ps ∧ Pls (cUp xs) n ps ∧ Below w.heap.size w w' := by
  have ho := order_any 86 io n ic xs _ w h hn (ord1_up io n ic xs) (cUp3 n xs)
  go_enter Tryz.func70, Tryz.ntmps70
  go_wp2_with (first | (go_at_call 88; (with_reducible refine ho.mono ?_); rintro e w2 ⟨g, ps, rfl, f2, p2, b2⟩))
  go_ret
  exact ⟨g, ps, rfl, f2, p2, b2⟩

set_option maxHeartbeats 400000 in
theorem falling_any (io : Option Addr) (n ic : Nat) (xs : Nat → List Int × List Int) (w : World) (h : AsQ w io n xs) (hn : n ≤ 4096) :
    Calls Tryz.prog 73 #[.slice io n ic] w fun e w' => ∃ g ps, e = .returned (.slice (some ⟨g, 0, none⟩) n n) ∧ Ft 3 w' w.heap.size (some ⟨g, 0, none⟩) n n ps ∧ Pls (cDn xs) n ps ∧ Below w.heap.size w w' := by
  have ho := order_any 90 io n ic xs _ w h hn (ord1_dn io n ic xs) (cDn3 n xs)
  go_enter Tryz.func73, Tryz.ntmps73
  go_wp2_with (first | (go_at_call 88; (with_reducible refine ho.mono ?_); rintro e w2 ⟨g, ps, rfl, f2, p2, b2⟩))
  go_ret
  exact ⟨g, ps, rfl, f2, p2, b2⟩
end Go.Proofs.YtmepcenbaohcoaaGreat
