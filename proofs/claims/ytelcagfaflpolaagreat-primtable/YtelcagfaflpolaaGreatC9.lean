
/- Lists of arrays; contract: an array's cells. -/

import Derived.Test.YtelcagfaflpolaaGreatC8

namespace Go.Proofs.YtelcagfaflpolaaGreat

open Go.RowKit

set_option linter.unusedVariables false

/-- A row of m arrays whose first k are these, each of lists that were made behind the row. -/
structure Ac (W : World) (g m k : Nat) (xs : Nat → List Int × List Int) : Prop where
  row : ∃ cur : List Value, W.heap[g]? = some (.cells cur.toArray 36 (0, 0)) ∧ cur.length = m * 2 ∧ ∀ j, j < k → ∃ so sn sc to tn tc, cur[j * 2]? = some (.slice so sn sc) ∧ cur[j * 2 + 1]? = some (.slice to tn tc) ∧ Ft 3 W (g + 1) so sn sc (xs j).1 ∧ Ft 2 W (g + 1) to tn tc (xs j).2
theorem Ac.lt {W : World} {g m k : Nat} {xs : Nat → List Int × List Int} (h : Ac W g m k xs) : g < W.heap.size := by
  obtain ⟨cur, h1, _⟩ := h.row
  exact (Array.getElem?_eq_some_iff.1 h1).1
theorem Ac.below {W W' : World} {g m k : Nat} {xs : Nat → List Int × List Int} (h : Ac W g m k xs) (hb : Below W.heap.size W W') : Ac W' g m k xs := by
  have hl := h.lt
  obtain ⟨cur, h1, h2, h3⟩ := h.row
  refine ⟨cur, (hb.block g hl).trans h1, h2, fun j hj => ?_⟩
  obtain ⟨so, sn, sc, to, tn, tc, a1, a2, a3, a4⟩ := h3 j hj
  exact ⟨so, sn, sc, to, tn, tc, a1, a2, a3.below hb (Nat.le_refl _), a4.below hb (Nat.le_refl _)⟩
theorem Ac.less {W : World} {g m k k' : Nat} {xs : Nat → List Int × List Int} (h : Ac W g m k xs) (hk : k' ≤ k) : Ac W g m k' xs := by
  obtain ⟨cur, h1, h2, h3⟩ := h.row
  exact ⟨cur, h1, h2, fun j hj => h3 j (by omega)⟩
theorem Ac.new (W : World) (g m : Nat) (xs : Nat → List Int × List Int) (z : Array Value) (h : W.heap[g]? = some (.cells (madeCells z (m * 2)) 36 (0, 0))) : Ac W g m 0 xs := by
  obtain ⟨cur, hcur⟩ := arr_list (madeCells z (m * 2))
  have hl := size_madeCells z (m * 2)
  rw [hcur] at h hl
  exact ⟨cur, h, by simpa using hl, fun j hj => by omega⟩
theorem Ac.set {W : World} {g m k : Nat} {xs : Nat → List Int × List Int} (h : Ac W g m k xs) (hk : k < m) {so to : Option Addr} {sn sc tn tc : Nat} (f1 : Ft 3 W (g + 1) so sn sc (xs k).1) (f2 : Ft 2 W (g + 1) to tn tc (xs k).2) :
    Ac ((W.setCell ⟨g, k * 2, none⟩ (.slice so sn sc)).setCell ⟨g, k * 2 + 1, none⟩ (.slice to tn tc)) g m (k + 1) xs := by
  have kg := set2 W g (k * 2) (k * 2 + 1) (.slice so sn sc) (.slice to tn tc)
  obtain ⟨cur, h1, h2, h3⟩ := h.row
  have a1 := heap_setCell_same W g (k * 2) _ 36 (.slice so sn sc) h1
  have a2 := heap_setCell_same _ g (k * 2 + 1) _ 36 (.slice to tn tc) a1
  have kp : ∀ {e : TypeId} {o : Option Addr} {n c : Nat} {zs : List Int}, Ft e W (g + 1) o n c zs → Ft e ((W.setCell ⟨g, k * 2, none⟩ (.slice so sn sc)).setCell ⟨g, k * 2 + 1, none⟩ (.slice to tn tc)) (g + 1) o n c zs := fun h => h.keep1 kg (fun b off e => by
    have := (h.at b off e).1
    intro e'; cases e'; omega)
  refine ⟨(cur.set (k * 2) (.slice so sn sc)).set (k * 2 + 1) (.slice to tn tc), by simpa using a2, by simpa using h2, fun j hj => ?_⟩
  by_cases e : j = k
  · subst e
    exact ⟨so, sn, sc, to, tn, tc, by rw [List.getElem?_set_ne (by omega), List.getElem?_set_self (by omega)], by rw [List.getElem?_set_self (by simp; omega)], kp f1, kp f2⟩
  · obtain ⟨so', sn', sc', to', tn', tc', b1, b2, b3, b4⟩ := h3 j (by omega)
    exact ⟨so', sn', sc', to', tn', tc', by rw [List.getElem?_set_ne (by omega), List.getElem?_set_ne (by omega)]; exact b1, by rw [List.getElem?_set_ne (by omega), List.getElem?_set_ne (by omega)]; exact b2, kp b3, kp b4⟩
theorem infoA : (Tryz.prog.info? 36).map (fun i => (i.zero, i.size, i.bytes)) = some (some (.agg #[.slice none 0 0, .slice none 0 0]), 2, 48) := by kernel_rfl
theorem run_makeA (w : World) (m : Nat) (hm : m ≤ 4096) : (Instr.makeSlice 38 (.int .i64 (m : Nat)) (.int .i64 (m : Nat))).run Tryz.prog w = .ok (.slice (some ⟨w.heap.size, 0, none⟩) m m) (w.alloc (.cells (madeCells #[.slice none 0 0, .slice none 0 0] (m * 2)) 36)) := by
  obtain ⟨i0, hi, hz0, hz1, hz2⟩ := info_parts infoA
  have := run_make (P := Tryz.prog) w 38 36 i0 _ Tryz.underlying38 hi hz0 .i64 .i64 (m : Int) (m : Int) (by omega) (Int.le_refl _) (by rw [hz2]; omega) (by omega)
  simpa [hz1, Value.cells] using this

/-- The frame, the cell's shape, and the atoms of the j-th cell. -/
def frm (sh : List Int) (r : Int) : List Int := sh.take (sh.length - rankF sh.length r)
def inn (sh : List Int) (r : Int) : List Int := sh.drop (sh.length - rankF sh.length r)
def clz (sh : List Int) (r : Int) : Nat := (pr (inn sh r)).toNat
def cls (sh at' : List Int) (r : Int) (j : Nat) : List Int × List Int := (inn sh r, (at'.drop (j * clz sh r)).take (clz sh r))
def npl (sh : List Int) (r : Int) : Nat := (pr (frm sh r)).toNat

theorem mayF_drop {sh : List Int} (h : mayF sh = 0) : ∀ p, mayF (sh.drop p) = 0
  | 0 => h
  | p + 1 => by have := mayF_tail (mayF_drop h p); rwa [List.drop_drop] at this
theorem mayF_take {sh : List Int} (h : mayF sh = 0) (p : Nat) : mayF (sh.take p) = 0 := by
  obtain ⟨h1, h2, h3⟩ := mayF_zero h
  by_cases hp : p ≤ sh.length
  · refine mayF_ok (fun k hk => ?_) (by rw [List.length_take]; omega) ?_
    · rw [List.length_take] at hk
      rw [nth_take (by omega)]; exact h1 k (by omega)
    · have := pz_up (l := sh) (i := p) sh.length hp (Nat.le_refl _) h1
      rw [List.take_length] at this; omega
  · rw [List.take_of_length_le (by omega)]; exact h
theorem pr_cut {sh : List Int} (r : Int) : pr (frm sh r) * pr (inn sh r) = pr sh := by
  unfold frm inn; rw [← pr_app, List.take_append_drop]
theorem prF_bd {sh : List Int} (h : mayF sh = 0) : 0 ≤ pr sh ∧ pr sh ≤ 4096 := by
  have := pr_small h sh.length (Nat.le_refl _)
  rwa [List.take_length] at this

theorem box4 {W : World} {g : Nat} {a b c d : Value} {t : TypeId} (h : W.heap[g]? = some (.cells #[a, b, c, d] t (0, 0))) :
    W.cell? ⟨g, 0, none⟩ = some a ∧ W.cell? ⟨g, 1, none⟩ = some b ∧ W.cell? ⟨g, 2, none⟩ = some c ∧ W.cell? ⟨g, 3, none⟩ = some d ∧ W.frozen? ⟨g, 0, none⟩ = false ∧ W.frozen? ⟨g, 1, none⟩ = false ∧ W.frozen? ⟨g, 2, none⟩ = false ∧ W.frozen? ⟨g, 3, none⟩ = false :=
  ⟨(cell_of_row W g 0 _ t (0, 0) h).trans rfl, (cell_of_row W g 1 _ t (0, 0) h).trans rfl, (cell_of_row W g 2 _ t (0, 0) h).trans rfl, (cell_of_row W g 3 _ t (0, 0) h).trans rfl, frozen_of_row W g 0 _ t h, frozen_of_row W g 1 _ t h, frozen_of_row W g 2 _ t h, frozen_of_row W g 3 _ t h⟩
theorem grown_trans {a b c : World} {r : Option Nat} (h : a.grownBy b r) (k : b.grownBy c r) : a.grownBy c r :=
  ⟨k.os.trans h.os, k.tape.trans h.tape, k.output.trans h.output, Nat.le_trans h.size k.size, fun j hj hne => (k.block j (Nat.lt_of_lt_of_le hj h.size) hne).trans (h.block j hj hne)⟩
theorem set4 (W : World) (b : Nat) (x y u v : Value) : W.grownBy ((((W.setCell ⟨b, 0, none⟩ x).setCell ⟨b, 1, none⟩ y).setCell ⟨b, 2, none⟩ u).setCell ⟨b, 3, none⟩ v) (some b) :=
  grown_trans (set2 W b 0 1 x y) (set2 _ b 2 3 u v)
theorem Ac.keep {W W' : World} {g m k b : Nat} {xs : Nat → List Int × List Int} (h : Ac W g m k xs) (hg : W.grownBy W' (some b)) (hb : b < g) : Ac W' g m k xs := by
  have hl := h.lt
  obtain ⟨cur, h1, h2, h3⟩ := h.row
  refine ⟨cur, (hg.block g hl (fun e => by cases e; omega)).trans h1, h2, fun j hj => ?_⟩
  obtain ⟨so, sn, sc, to, tn, tc, a1, a2, a3, a4⟩ := h3 j hj
  exact ⟨so, sn, sc, to, tn, tc, a1, a2, a3.keep1 hg (fun b' off e => by have := (a3.at b' off e).1; intro e'; cases e'; omega), a4.keep1 hg (fun b' off e => by have := (a4.at b' off e).1; intro e'; cases e'; omega)⟩
/-- A box of two cells, and one of four for the answer. -/
structure On (w W : World) (so : Option Addr) (sn sc : Nat) (ao : Option Addr) (an ac : Nat) (sh at' : List Int) : Prop where
  c0 : W.cell? ⟨w.heap.size, 0, none⟩ = some (.slice so sn sc)
  c1 : W.cell? ⟨w.heap.size, 1, none⟩ = some (.slice ao an ac)
  r : W.heap[w.heap.size + 1]? = some (.cells #[.slice none 0 0, .slice none 0 0, .slice none 0 0, .slice none 0 0] 40 (0, 0))
  s : Rd W so sn sh
  a : Rd W ao an at'
  bel : Below w.heap.size w W
theorem On.below {w W W' : World} {so : Option Addr} {sn sc : Nat} {ao : Option Addr} {an ac B : Nat} {sh at' : List Int} (h : On w W so sn sc ao an ac sh at') (k : Below B W W') (hB : W.heap.size ≤ B) : On w W' so sn sc ao an ac sh at' := by
  have l0 := World.block_lt_of_cell? W _ h.c0
  have l1 := (Array.getElem?_eq_some_iff.1 h.r).1
  exact ⟨(k.cell (p := ⟨w.heap.size, 0, none⟩) (Nat.lt_of_lt_of_le l0 hB)).trans h.c0, (k.cell (p := ⟨w.heap.size, 1, none⟩) (Nat.lt_of_lt_of_le l0 hB)).trans h.c1, (k.block _ (by omega)).trans h.r, h.s.below k hB, h.a.below k hB, h.bel.trans (k.mono (Nat.le_trans h.bel.size hB))⟩
theorem on_start (w : World) (so : Option Addr) (sn sc : Nat) (ao : Option Addr) (an ac : Nat) (sh at' : List Int) (h : Rd w so sn sh) (g : Rd w ao an at') :
    On w ((w.alloc (.cells #[.slice so sn sc, .slice ao an ac] 36)).alloc (.cells #[.slice none 0 0, .slice none 0 0, .slice none 0 0, .slice none 0 0] 40)) so sn sc ao an ac sh at' := by
  have b0 := allocNew w (.cells #[.slice so sn sc, .slice ao an ac] 36)
  have b1 := allocNew (w.alloc (.cells #[.slice so sn sc, .slice ao an ac] 36)) (.cells #[.slice none 0 0, .slice none 0 0, .slice none 0 0, .slice none 0 0] 40)
  have k := box_below (w.alloc (.cells #[.slice so sn sc, .slice ao an ac] 36)) (.cells #[.slice none 0 0, .slice none 0 0, .slice none 0 0, .slice none 0 0] 40)
  rw [World.size_alloc] at b1
  have bel : Below w.heap.size w ((w.alloc (.cells #[.slice so sn sc, .slice ao an ac] 36)).alloc (.cells #[.slice none 0 0, .slice none 0 0, .slice none 0 0, .slice none 0 0] 40)) := (box_below w _).trans (k.mono (by simp))
  exact ⟨(k.cell (p := ⟨w.heap.size, 0, none⟩) (by simp)).trans ((cell_of_row _ _ 0 _ _ (0, 0) b0).trans rfl), (k.cell (p := ⟨w.heap.size, 1, none⟩) (by simp)).trans ((cell_of_row _ _ 1 _ _ (0, 0) b0).trans rfl), b1, h.below bel (Nat.le_refl _), g.below bel (Nat.le_refl _), bel⟩

theorem Ac.slot {W : World} {g m k k' : Nat} {xs : Nat → List Int × List Int} (h : Ac W g m k' xs) (hk : k < m) : ∃ x y, W.cell? ⟨g, k * 2, none⟩ = some x ∧ W.cell? ⟨g, k * 2 + 1, none⟩ = some y ∧ W.frozen? ⟨g, k * 2, none⟩ = false ∧ W.frozen? ⟨g, k * 2 + 1, none⟩ = false := by
  obtain ⟨cur, h1, h2, h3⟩ := h.row
  have a : k * 2 < cur.length := by omega
  have b : k * 2 + 1 < cur.length := by omega
  exact ⟨cur[k * 2], cur[k * 2 + 1], (cell_of_row W g _ _ _ (0, 0) h1).trans (by simp), (cell_of_row W g _ _ _ (0, 0) h1).trans (by simp), frozen_of_row W g _ _ _ h1, frozen_of_row W g _ _ _ h1⟩
/-- Between two parts of a round that fills a row of arrays. -/
structure OnL (Wg V : World) (g m k : Nat) (xs : Nat → List Int × List Int) : Prop where
  b : Below g Wg V
  a : Ac V g m k xs
theorem OnL.below {Wg V V' : World} {g m k : Nat} {xs : Nat → List Int × List Int} (h : OnL Wg V g m k xs) (hb : Below V.heap.size V V') : OnL Wg V' g m k xs :=
  ⟨h.b.trans (hb.mono (Nat.le_of_lt h.a.lt)), h.a.below hb⟩
theorem OnL.set {Wg V : World} {g m k : Nat} {xs : Nat → List Int × List Int} (h : OnL Wg V g m k xs) (hg : g ≤ Wg.heap.size) (hk : k < m) {so to : Option Addr} {sn sc tn tc : Nat} (f1 : Ft 3 V (g + 1) so sn sc (xs k).1) (f2 : Ft 2 V (g + 1) to tn tc (xs k).2) :
    OnL Wg ((V.setCell ⟨g, k * 2, none⟩ (.slice so sn sc)).setCell ⟨g, k * 2 + 1, none⟩ (.slice to tn tc)) g m (k + 1) xs :=
  ⟨below_set2 _ _ _ _ h.b (Nat.le_refl _) hg, h.a.set hk f1 f2⟩
theorem OnL.less {Wg V : World} {g m k : Nat} {xs : Nat → List Int × List Int} (h : OnL Wg V g m (k + 1) xs) : OnL Wg V g m k xs := ⟨h.b, h.a.less (by omega)⟩

set_option maxHeartbeats 4000000 in
set_option maxRecDepth 20000 in
theorem one_ok (so ao : Option Addr) (sn sc an ac : Nat) (sh at' : List Int) (r : Int) (w : World) (h : Rd w so sn sh) (hs : Sl so sn sc) (g : Rd w ao an at') (gs : Sl ao an ac) (h0 : mayA sh at' = 0) (r1 : -9223372036854775808 ≤ r) (r2 : r ≤ 9223372036854775807) :
    Calls Tryz.prog 14 #[.agg #[.slice so sn sc, .slice ao an ac], .int .i64 r] w fun e w' => ∃ fo fn fc gg o1 n1 c1 o2 n2 c2, e = .returned (.tuple #[.agg #[.slice fo fn fc, .slice (some ⟨gg, 0, none⟩) (npl sh r) (npl sh r), .slice o1 n1 c1, .slice o2 n2 c2], .int .i64 0]) ∧
      Ft 3 w' w.heap.size fo fn fc (frm sh r) ∧ Ac w' gg (npl sh r) (npl sh r) (cls sh at' r) ∧ w.heap.size ≤ gg ∧ Ft 3 w' w.heap.size o1 n1 c1 (inn sh r) ∧ Ft 2 w' w.heap.size o2 n2 c2 (List.replicate (clz sh r) 0) ∧ Below w.heap.size w w' := by
  obtain ⟨hm0, hla⟩ := mayA_zero h0
  have mf : mayF (frm sh r) = 0 := mayF_take hm0 _
  have mi : mayF (inn sh r) = 0 := mayF_drop hm0 _
  have bf := prF_bd mf
  have bi := prF_bd mi
  have bs := prF_bd hm0
  have hcut := pr_cut (sh := sh) r
  have hl := h.len
  have gl := g.len
  have hsn : sn ≤ 8 := by rw [← hl]; exact (mayF_zero hm0).2.1
  have I0 := on_start w so sn sc ao an ac sh at' h g
  have hm := mayA_any so ao sn sc an ac sh at' _ I0.s I0.a
  rw [h0] at hm
  have hsp := fun W (x : Rd W so sn sh) => split_any so sn sc sh r W x hs r1 r2
  have ef : frm sh r = sh.take (sn - rankF sn r) := by unfold frm; rw [hl]
  have ei : inn sh r = sh.drop (sn - rankF sn r) := by unfold inn; rw [hl]
  rw [← ef, ← ei] at hsp
  have hrk := rankF_le sn r
  have hfz := fun W o n c (x : Rd W o n (frm sh r)) => size_any o n c (frm sh r) W x
  rw [mf, sizeF_ok mf] at hfz
  have hfl := fun W o n c (x : Rd W o n (inn sh r)) (y : Sl o n c) => fill_any o n c (inn sh r) 0 W x y (by omega) (by omega)
  rw [mi, show filS (inn sh r) = inn sh r from if_pos mi, show filA (inn sh r) 0 = List.replicate (clz sh r) 0 from if_pos mi] at hfl
  obtain ⟨m, hmm⟩ : ∃ m : Nat, npl sh r = m := ⟨_, rfl⟩
  obtain ⟨z, hzz⟩ : ∃ z : Nat, clz sh r = z := ⟨_, rfl⟩
  have em : pr (frm sh r) = m := by rw [← hmm]; unfold npl; omega
  have ez : pr (inn sh r) = z := by rw [← hzz]; unfold clz; omega
  rw [em] at hfz
  have hxs : ∀ j, cls sh at' r j = (inn sh r, (at'.drop (j * z)).take z) := fun j => by unfold cls; rw [hzz]
  rw [hmm]
  rw [hzz] at hfl ⊢
  have hmz : m * z = an := by
    have : (m : Int) * z = an := by rw [← em, ← ez, hcut, ← hla, gl]
    exact_mod_cast this
  have hm4 : m ≤ 4096 := by omega
  have hz4 : z ≤ 4096 := by omega
  have hmk := fun W => run_makeA W m hm4
  generalize frm sh r = fs at *
  generalize inn sh r = is at *
  generalize rankF sn r = q at *
  generalize cls sh at' r = xs at *
  have HX : Hid (∀ j, xs j = (is, (at'.drop (j * z)).take z)) := hxs
  have HMZ : Hid (m * z = an) := hmz
  have an4 : an ≤ 4096 := by omega
  clear hmm hzz em ez ef ei hcut bf bi bs mf mi hla hm0 h0 hxs hmz hl gl
  go_enter Tryz.func14, Tryz.ntmps14
  go_wp2_with (first
    | (go_at_call 13; refine hm.mono ?_; rintro e W1 ⟨rfl, h1⟩; have I1 := I0.below h1 (Nat.le_refl _); have I1' := I1; obtain ⟨p0, p1, _, _, _, _⟩ := I1')
    | (go_at_call 33; refine (hsp _ I1.s).mono ?_; rintro e W2 ⟨fo, fc, io, ic, rfl, f2, g2, _, h2⟩; have I2 := I1.below h2 (Nat.le_refl _); have I2' := I2; obtain ⟨q0, q1, _, _, _, _⟩ := I2')
    | (go_at_call 22; refine (hfz _ _ _ _ f2.rd).mono ?_; rintro e w' ⟨rfl, hw⟩; rw [hw]; clear hw w')
    | (go_at_call 24; refine (hfl _ _ _ _ g2.rd g2.sl).mono ?_; rintro e W3 ⟨o1, n1, c1, o2, n2, c2, rfl, f3, g3, _, h3⟩; (obtain rfl : z = n2 := (by have := g3.rd.len; rw [List.length_replicate] at this; exact this)); have I3 := I2.below h3 (Nat.le_refl _); obtain ⟨l0, l1, _, _⟩ := box2 (allocNew W3 (.cells #[.slice o1 n1 c1, .slice o2 z c2] 36))))
  have I4 := I3.below (box_below W3 (.cells #[.slice o1 n1 c1, .slice o2 z c2] 36)) (Nat.le_refl _)
  have f4 := (Fr.ft f2).below h3 (Nat.le_refl _)
  have f5 := f4.below (box_below W3 (.cells #[.slice o1 n1 c1, .slice o2 z c2] 36)) (Nat.le_refl _)
  have g4 := (Fr.ft g2).below h3 (Nat.le_refl _)
  have g5 := g4.below (box_below W3 (.cells #[.slice o1 n1 c1, .slice o2 z c2] 36)) (Nat.le_refl _)
  have d1 := f3.below (box_below W3 (.cells #[.slice o1 n1 c1, .slice o2 z c2] 36)) (Nat.le_refl _)
  have d2 := g3.below (box_below W3 (.cells #[.slice o1 n1 c1, .slice o2 z c2] 36)) (Nat.le_refl _)
  have s0 := I0.bel.size
  have s1 := h1.size
  have s2 := h2.size
  have s3 := h3.size
  simp only [World.size_alloc] at s0 s1
  have hmr := allocNew (W3.alloc (.cells #[.slice o1 n1 c1, .slice o2 z c2] 36)) (.cells (madeCells #[.slice none 0 0, .slice none 0 0] (m * 2)) 36)
  have A0 := Ac.new _ _ m xs _ hmr
  have bg := box_below (W3.alloc (.cells #[.slice o1 n1 c1, .slice o2 z c2] 36)) (.cells (madeCells #[.slice none 0 0, .slice none 0 0] (m * 2)) 36)
  have l3 : W3.heap.size < (W3.alloc (.cells #[.slice o1 n1 c1, .slice o2 z c2] 36)).heap.size := by simp
  have hlw : w.heap.size + 1 < W1.heap.size := (Array.getElem?_eq_some_iff.1 I1.r).1
  have hgE : (W3.alloc (.cells #[.slice o1 n1 c1, .slice o2 z c2] 36)).heap.size = W3.heap.size + 1 := by simp
  obtain ⟨Wg, hWg⟩ : ∃ Wg, W3.alloc (.cells #[.slice o1 n1 c1, .slice o2 z c2] 36) = Wg := ⟨_, rfl⟩
  rw [hWg] at I4 f5 g5 d1 d2 A0 bg l3 hgE l0 l1 ⊢
  rw [hgE] at A0 bg
  clear hmr hWg f4 g4 f2 g2 f3 g3 p0 p1 q0 q1 hmk hm hsp hfz hfl I0
  go_loopw [43] (fun i W => ∃ k : Nat, k ≤ m ∧ i = .int .i64 (k : Nat) ∧ OnL Wg W (W3.heap.size + 1) m k xs) (fun i _ => m - (intOf i).toNat)
  case atStart => exact ⟨0, Nat.zero_le _, rfl, bg, A0⟩
  case round =>
    obtain ⟨k, hk, rfl, L0⟩ := hrel
    by_cases hlt : k < m
    · have hk1 : (k + 1) * z ≤ an := by rw [← HMZ.out]; exact Nat.mul_le_mul_right _ (by omega)
      obtain ⟨lo, hlo⟩ : ∃ lo : Nat, k * z = lo := ⟨_, rfl⟩
      obtain ⟨hi, hhi⟩ : ∃ hi : Nat, (k + 1) * z = hi := ⟨_, rfl⟩
      have m1 : ((k : Int) * (z : Int)) = (lo : Int) := by rw [← hlo]; simp
      have m2 : (((k : Int) + 1) * (z : Int)) = (hi : Int) := by rw [← hhi]; simp
      have m3 : hi - lo = z := by rw [← hlo, ← hhi, Nat.add_mul]; omega
      have hlh : lo ≤ hi := by rw [← hlo, ← hhi]; exact Nat.mul_le_mul_right _ (by omega)
      rw [hhi] at hk1
      have HXk : Hid (xs k = (is, (at'.drop lo).take (hi - lo))) := by show _ = _; rw [HX.out, hlo, m3]
      have gle := gs.le
      have gmx := gs.max
      have b1 : (lo : Int) ≤ (hi : Int) := by omega
      have b2 : (hi : Int) ≤ (ac : Int) := by omega
      have b0 : (0 : Int) ≤ (lo : Int) := by omega
      have t1 : decide ((k : Int) < (m : Int)) = true := by simp; omega
      have b3 : (k : Int) < (m : Int) := by omega
      have w1 : IntKind.i64.wrap (lo : Int) = (lo : Int) := wrapIn _ (by omega)
      have w2 : IntKind.i64.wrap ((k : Int) + 1) = (k : Int) + 1 := wrapIn _ (by omega)
      have w3 : IntKind.i64.wrap (hi : Int) = (hi : Int) := wrapIn _ (by omega)
      obtain ⟨po, hpo⟩ : ∃ po, (if ac = lo then ao else Option.map (fun x => x.add lo) ao) = po := ⟨_, rfl⟩
      clear hlo hhi m3
      have al : ∀ V, OnL Wg V (W3.heap.size + 1) m k xs → V.cell? ⟨w.heap.size, 1, none⟩ = some (.slice ao an ac) ∧ OnL Wg V (W3.heap.size + 1) m k xs := fun V x => ⟨(x.b.cell (p := ⟨w.heap.size, 1, none⟩) (show w.heap.size < W3.heap.size + 1 by omega)).trans I4.c1, x⟩
      go_wp2
      go_region_held3 (fun V => V.cell? ⟨w.heap.size, 1, none⟩ = some (.slice ao an ac) ∧ OnL Wg V (W3.heap.size + 1) m k xs) (first | exact al _ (by assumption) | exact al _ ((by assumption : OnL _ _ _ _ _ _).below (Below.refl _ _).drew) | exact al _ L6.less)
        (first
          | (go_at_call 34; have HS := (‹_ ∧ OnL Wg _ (W3.heap.size + 1) m k xs›).2; (with_reducible refine (clone_any _ _ _ _ _ (g5.rd.below HS.b (Nat.le_of_eq hgE)) g5.sl).mono ?_); rintro e w4 ⟨o4, c4, rfl, f6, h4⟩; have L4 := HS.below h4; have sz4 := HS.a.lt)
          | (go_at_call 35; have sb := (I4.a.below L4.b (Nat.le_of_eq hgE)).sub gs hpo hlh hk1; (with_reducible refine (clone8_any _ _ _ _ _ sb.1 sb.2).mono ?_); rintro e w5 ⟨o5, c5, rfl, f7, h5⟩; have L5 := L4.below h5; obtain ⟨x5, y5, k0, k1, z0, z1⟩ := L5.a.slot (k := k) hlt; have sz5 := L4.a.lt; have f6' := (f6.below h5 (Nat.le_refl _)).mono (B' := W3.heap.size + 1 + 1) (by omega); have f7' := f7.mono (B' := W3.heap.size + 1 + 1) (by omega); have L6 := L5.set (Nat.le_of_eq hgE.symm) hlt (by rw [HXk.out]; exact f6') (by rw [HXk.out]; exact f7')))
      go_wp2
      go_roundw
      case rel => exact ⟨k + 1, by omega, by go_num, L6⟩
      case measure => simp [intOf]; omega
    · obtain rfl : k = m := by omega
      have t1 : decide ((k : Int) < (k : Int)) = false := by simp
      have e0 := (L0.b.cell (p := ⟨W3.heap.size, 0, none⟩) (show W3.heap.size < W3.heap.size + 1 by omega)).trans l0
      have e1 := (L0.b.cell (p := ⟨W3.heap.size, 1, none⟩) (show W3.heap.size < W3.heap.size + 1 by omega)).trans l1
      have rr := (L0.b.block (w.heap.size + 1) (by omega)).trans I4.r
      obtain ⟨x0, x1, x2, x3, y0, y1, y2, y3⟩ := box4 rr
      go_wp2
      (try simp only [Exit.inBlock, Exit.then])
      refine bodyPost_ret (v := .tuple #[.agg #[.slice fo (sn - q) fc, .slice (some ⟨W3.heap.size + 1, 0, none⟩) k k, .slice o1 n1 c1, .slice o2 z c2], .int .i64 0]) (by rw [results_cell_tmp rfl]; go_simp) rfl ?_
      have k4 := set4 wr (w.heap.size + 1) (.slice fo (sn - q) fc) (.slice (some ⟨W3.heap.size + 1, 0, none⟩) k k) (.slice o1 n1 c1) (.slice o2 z c2)
      have ge := Nat.le_of_eq hgE
      refine ⟨fo, sn - q, fc, W3.heap.size + 1, o1, n1, c1, o2, z, c2, rfl, (((f5.below L0.b ge).keep1 k4 (fun b off e => ?_)).mono (by omega)), L0.a.keep k4 (by omega), by omega, (((d1.below L0.b ge).keep1 k4 (fun b off e => ?_)).mono (by omega)), (((d2.below L0.b ge).keep1 k4 (fun b off e => ?_)).mono (by omega)), (I4.bel.trans (L0.b.mono (by omega))).grown k4 ?_ (fun k e => by cases e; omega)⟩
      · have := (f5.at b off e).1; intro e'; cases e'; omega
      · have := (d1.at b off e).1; intro e'; cases e'; omega
      · have := (d2.at b off e).1; intro e'; cases e'; omega
      · have := L0.a.lt; omega

set_option maxHeartbeats 2000000 in
theorem one_may (so ao : Option Addr) (sn sc an ac : Nat) (sh at' : List Int) (r : Int) (w : World) (h : Rd w so sn sh) (g : Rd w ao an at') (h0 : mayA sh at' ≠ 0) :
    Calls Tryz.prog 14 #[.agg #[.slice so sn sc, .slice ao an ac], .int .i64 r] w fun e w' => e = .returned (.tuple #[.agg #[.slice none 0 0, .slice none 0 0, .slice none 0 0, .slice none 0 0], .int .i64 1]) ∧ Below w.heap.size w w' := by
  have I0 := on_start w so sn sc ao an ac sh at' h g
  have hm := mayA_any so ao sn sc an ac sh at' _ I0.s I0.a
  have h0' : (mayA sh at' != 0) = true := by simpa using h0
  clear h0
  go_enter Tryz.func14, Tryz.ntmps14
  go_wp2_with (go_at_call 13; refine hm.mono ?_; rintro e W1 ⟨rfl, h1⟩; have I1 := I0.below h1 (Nat.le_refl _); obtain ⟨p0, p1, pr1, _, _, pb⟩ := I1; obtain ⟨x0, x1, x2, x3, y0, y1, y2, y3⟩ := box4 pr1)
  (try simp only [Exit.inBlock, Exit.then])
  refine bodyPost_ret (v := .tuple #[.agg #[.slice none 0 0, .slice none 0 0, .slice none 0 0, .slice none 0 0], .int .i64 1]) (by rw [results_cell_tmp rfl]; go_simp) rfl ?_
  have k4 := set4 W1 (w.heap.size + 1) (.slice none 0 0) (.slice none 0 0) (.slice none 0 0) (.slice none 0 0)
  exact ⟨rfl, by first | exact pb | exact pb.grown k4 pb.size (fun k e => by cases e; omega)⟩
end Go.Proofs.YtelcagfaflpolaaGreat
