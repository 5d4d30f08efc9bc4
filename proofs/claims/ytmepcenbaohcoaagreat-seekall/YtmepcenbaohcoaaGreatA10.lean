
/- Contract: a list of one number over and over, by package slices. -/

import Derived.Test.YtmepcenbaohcoaaGreatA9

import Derived.Laws.Bits64b

import Derived.Laws.CopyOwn

import Derived.IntWalk

import Derived.Deep.OwnRows

namespace Go.Proofs.YtmepcenbaohcoaaGreat

open Go.RowKit

set_option linter.unusedVariables false

/-! ### math/bits.Mul64: the product of two words, by its halves -/

theorem and_mod (a : Nat) (ha : a < 18446744073709551616) : bits .and .u64 (a : Int) 4294967295 = (a : Int) % 4294967296 := by
  refine (bits_and_u64_nat a 4294967295 ha (by omega)).trans ?_
  rw [show (4294967295 : Nat) = 2 ^ 32 - 1 from rfl, Nat.and_two_pow_sub_one_eq_mod]
  omega
/-- Two numbers of two halves each: the product by the halves' products. -/
theorem by_halves (a b c d k : Nat) : (a * k + b) * (c * k + d) = a * c * (k * k) + a * d * k + b * c * k + b * d := by
  have e1 : a * k * (c * k) = a * c * (k * k) := Nat.mul_mul_mul_comm a k c k
  have e2 : a * k * d = a * d * k := Nat.mul_right_comm a k d
  have e3 : b * (c * k) = b * c * k := (Nat.mul_assoc b c k).symm
  simp only [Nat.add_mul, Nat.mul_add, e1, e2, e3]
  omega
theorem half_le {a b : Nat} (ha : a < 4294967296) (hb : b < 4294967296) : a * b ≤ 18446744065119617025 :=
  Nat.le_trans (Nat.mul_le_mul (show a ≤ 4294967295 by omega) (show b ≤ 4294967295 by omega)) (by decide)

theorem bitsMul64 (x y : Nat) (hx : x < 18446744073709551616) (hy : y < 18446744073709551616) (w : World) :
    Calls Tryz.prog 107 #[.int .u64 x, .int .u64 y] w fun e w' => e = .returned (.tuple #[.int .u64 ((x * y / 18446744073709551616 : Nat) : Int), .int .u64 ((x * y % 18446744073709551616 : Nat) : Int)]) ∧ w' = w := by
  have mx := and_mod x hx
  have my := and_mod y hy
  obtain ⟨a, ea⟩ : ∃ a, a = x / 4294967296 := ⟨_, rfl⟩
  obtain ⟨b, eb⟩ : ∃ b, b = x % 4294967296 := ⟨_, rfl⟩
  obtain ⟨c, ec⟩ : ∃ c, c = y / 4294967296 := ⟨_, rfl⟩
  obtain ⟨d, ed⟩ : ∃ d, d = y % 4294967296 := ⟨_, rfl⟩
  have h := by_halves a b c d 4294967296
  rw [show a * 4294967296 + b = x by omega, show c * 4294967296 + d = y by omega] at h
  rw [show (x : Int) % 4294967296 = (b : Int) by omega] at mx
  rw [show (y : Int) % 4294967296 = (d : Int) by omega] at my
  have dx : (x : Int) / 4294967296 = (a : Int) := by omega
  have dy : (y : Int) / 4294967296 = (c : Int) := by omega
  have l1 := half_le (a := a) (b := c) (by omega) (by omega)
  have l2 := half_le (a := a) (b := d) (by omega) (by omega)
  have l3 := half_le (a := b) (b := c) (by omega) (by omega)
  have l4 := half_le (a := b) (b := d) (by omega) (by omega)
  have q0 : (x : Int) * (y : Int) = ((x * y : Nat) : Int) := (Int.natCast_mul x y).symm
  have q1 : (a : Int) * (c : Int) = ((a * c : Nat) : Int) := (Int.natCast_mul a c).symm
  have q2 : (a : Int) * (d : Int) = ((a * d : Nat) : Int) := (Int.natCast_mul a d).symm
  have q3 : (b : Int) * (c : Int) = ((b * c : Nat) : Int) := (Int.natCast_mul b c).symm
  have q4 : (b : Int) * (d : Int) = ((b * d : Nat) : Int) := (Int.natCast_mul b d).symm
  generalize x * y = P at h q0 ⊢
  generalize a * c = p1 at h q1 l1
  generalize a * d = p2 at h q2 l2
  generalize b * c = p3 at h q3 l3
  generalize b * d = p4 at h q4 l4
  have HP : Hid (P = p1 * (4294967296 * 4294967296) + p2 * 4294967296 + p3 * 4294967296 + p4) := h
  have mt : bits .and .u64 ((p2 : Int) + (p4 : Int) / 4294967296) 4294967295 = ((p2 : Int) + (p4 : Int) / 4294967296) % 4294967296 := by
    have := and_mod (p2 + p4 / 4294967296) (by omega)
    rw [show ((p2 + p4 / 4294967296 : Nat) : Int) = (p2 : Int) + (p4 : Int) / 4294967296 by omega] at this
    exact this
  have wp : IntKind.u64.wrap (P : Int) = ((P % 18446744073709551616 : Nat) : Int) := by rw [IntKind.wrap_u64]; omega
  clear ea eb ec ed h
  go_enter Tryz.func107, Tryz.ntmps107
  go_wp2
  go_ret2
  have h := HP.out
  exact ⟨ret_two (by omega) (by first | rfl | omega), rfl⟩

theorem bitsMul1 (m : Nat) (hm : m ≤ 4096) (w : World) : Calls Tryz.prog 100 #[.int .u64 1, .int .u64 (m : Nat)] w fun e w' => e = .returned (.tuple #[.int .u64 0, .int .u64 (m : Nat)]) ∧ w' = w := by
  have h := fun w => bitsMul64 1 m (by omega) (by omega) w
  rw [Nat.one_mul, Nat.div_eq_of_lt (by omega), Nat.mod_eq_of_lt (by omega)] at h
  go_enter Tryz.func100, Tryz.ntmps100
  go_wp2_with (go_at_call 107; refine (h _).mono ?_; rintro e w' ⟨rfl, hw⟩; rw [hw]; clear hw w')
  go_ret2
  exact ⟨rfl, rfl⟩

/-- A row of m cells whose first k hold one number. -/
structure Fl (W : World) (g m k : Nat) (v : Int) : Prop where
  row : ∃ cur : List Value, W.heap[g]? = some (.cells cur.toArray 2 (0, 0)) ∧ cur.length = m ∧ ∀ j, j < k → cur[j]? = some (.int .i64 v)

theorem Fl.cell {W : World} {g m k : Nat} {v : Int} (h : Fl W g m k v) {j : Nat} (hj : j < k) : W.cell? ⟨g, j, none⟩ = some (.int .i64 v) := by
  obtain ⟨cur, h1, h2, h3⟩ := h.row
  rw [cell_of_row W g j _ _ (0, 0) h1]
  simpa using h3 j hj

theorem Fl.less {W : World} {g m k k' : Nat} {v : Int} (h : Fl W g m k v) (hk : k' ≤ k) : Fl W g m k' v := by
  obtain ⟨cur, h1, h2, h3⟩ := h.row
  exact ⟨cur, h1, h2, fun j hj => h3 j (by omega)⟩
theorem fill_src {W : World} {g m k cc : Nat} {v : Int} (h : Fl W g m k v) (hc : cc ≤ k) {j : Nat} {u : Value} (hu : (List.replicate cc (Value.int .i64 v))[j]? = some u) : W.cell? ((⟨g, 0, none⟩ : Addr).add j) = some u := by
  have hj : j < cc := by have := (List.getElem?_eq_some_iff.1 hu).1; simpa using this
  rw [List.getElem?_replicate_of_lt hj] at hu
  cases hu
  rw [add_at, Nat.zero_add]
  exact h.cell (by omega)
theorem splice_at {cur : List Value} {k c : Nat} {u : Value} (hk : k + c ≤ cur.length) (h : ∀ j, j < k → cur[j]? = some u) : ∀ j, j < k + c → (splice cur k (List.replicate c u))[j]? = some u := by
  intro j hj
  unfold splice
  by_cases hjk : j < k
  · rw [List.getElem?_append_left (by simp; omega), List.getElem?_take_of_lt hjk]; exact h j hjk
  · rw [List.getElem?_append_right (by simp; omega), List.getElem?_append_left (by simp; omega)]
    simp [List.getElem?_replicate]; omega

theorem ones (v : Int) (q : Nat) : ∀ u ∈ List.replicate q (Value.int .i64 v), u.oneCell' = true := by
  intro u hu
  rw [(List.mem_replicate.1 hu).2]; rfl
theorem infoL : (Tryz.prog.info? 2).map (·.size) = some 1 := by kernel_rfl
theorem infoL3 : (Tryz.prog.info? 2).map (fun i => (i.zero, i.size, i.bytes)) = some (some (.int .i64 0), 1, 8) := by kernel_rfl

/-- A copy into a row of one's own, when it is run. -/
theorem run_splice {w : World} (ty : TypeId) (dp sp : Option Addr) (dLen dCap sLen sCap g off : Nat) (cur : List Value) (hg : w.heap[g]? = some (.cells cur.toArray 2 (0, 0))) (cs : List Value) (hn : cs.length = Nat.min sLen dLen)
    (hpos : 0 < cs.length → dp = some ⟨g, off, none⟩ ∧ ∃ ad, sp = some ad ∧ ∀ j v, cs[j]? = some v → w.cell? (ad.add j) = some v) (hfit : off + cs.length ≤ cur.length) (h1 : ∀ v ∈ cs, v.oneCell' = true) (B : Nat) (w0 : World) (hb : Below B w0 w) (hBg : B ≤ g) :
    ∃ w', (Builtin.copy_ #[26, 26] ty #[.slice dp dLen dCap, .slice sp sLen sCap]).run Tryz.prog w = .ok (goInt cs.length) w' ∧ w'.heap[g]? = some (.cells (splice cur off cs).toArray 2 (0, 0)) ∧ Below B w0 w' := by
  by_cases h0 : cs.length = 0
  · obtain rfl : cs = [] := List.eq_nil_of_length_eq_zero h0
    exact ⟨w, run_copy_none w _ _ ty 2 dp sp dLen dCap sLen sCap Tryz.underlying26 infoL (by simpa using hn.symm), by simpa [splice] using hg, hb⟩
  · obtain ⟨rfl, ad, rfl, hsrc⟩ := hpos (by omega)
    exact ⟨_, run_copy_row (P := Tryz.prog) w _ _ ty 2 g off dLen dCap ad sLen sCap cur.toArray 2 cs Tryz.underlying26 infoL hg hn hsrc (by simpa using hfit) h1, by simpa [splice] using setRow_heap w g _ _ 2 _ hg, below_setRow hb hBg _⟩

theorem Fl.splice {W : World} {g m k c : Nat} {v : Int} {cur : List Value} (h : W.heap[g]? = some (.cells (Go.splice cur k (List.replicate c (.int .i64 v))).toArray 2 (0, 0))) (hl : cur.length = m) (hk : k + c ≤ m) (hc : ∀ j, j < k → cur[j]? = some (.int .i64 v)) : Fl W g m (k + c) v :=
  ⟨_, h, by rw [length_splice _ _ _ (by simp; omega)]; exact hl, splice_at (by omega) hc⟩
theorem Fl.ft {W : World} {B g m : Nat} {v : Int} (h : Fl W g m m v) (hB : B ≤ g) (hm : m ≤ 4096) (h1 : -9223372036854775808 ≤ v) (h2 : v ≤ 9223372036854775807) : Ft 2 W B (some ⟨g, 0, none⟩) m m (List.replicate m v) := by
  obtain ⟨cur, c1, c2, c3⟩ := h.row
  have hown : W.ownsRow B 2 1 (.slice (some ⟨g, 0, none⟩) m m) m ((List.replicate m v).map (Value.int .i64)) := by
    refine ⟨by simp, .inr ⟨g, m, cur.toArray, rfl, hB, c1, Nat.le_refl _, by unfold maxLen; omega, by simp [c2], ?_⟩⟩
    rw [Nat.mul_one]
    apply List.ext_getElem?
    intro i
    by_cases hi : i < m
    · rw [List.getElem?_take_of_lt hi]
      rw [c3 i hi]
      simp [hi]
    · rw [List.getElem?_eq_none (by simp; omega), List.getElem?_eq_none (by simp; omega)]
  obtain ⟨ao, cap, e, hf⟩ := Ft.mk' (zs := List.replicate m v) (by simp) (by omega) (fun k hk => by simp [nth, hk]; exact ⟨h1, h2⟩) hown
  cases e
  exact hf

set_option maxHeartbeats 4000000 in
set_option maxRecDepth 20000 in
theorem repeat_any (xo : Addr) (c : Nat) (v : Int) (m : Nat) (w : World) (hm : m ≤ 4096) (hx : w.cell? xo = some (.int .i64 v)) (hxl : xo.block < w.heap.size) (hxs : xo.spot = none) (h1 : -9223372036854775808 ≤ v) (h2 : v ≤ 9223372036854775807) :
    Calls Tryz.prog 87 #[.slice (some xo) 1 c, .int .i64 (m : Nat)] w fun e w' => ∃ ao cap, e = .returned (.slice ao m cap) ∧ Ft 2 w' w.heap.size ao m cap (List.replicate m v) ∧ Below w.heap.size w w' := by
  have hb := fun w => bitsMul1 m hm w
  have hmk := run_make_row' (P := Tryz.prog) 26 2 (.int .i64 0) 8 Tryz.underlying26 infoL3 rfl .i64 .i64 m (by omega) (by omega)
  have hnew := allocNew w (.cells (madeCells #[.int .i64 0] m) 2)
  obtain ⟨Z, hZ⟩ : ∃ Z : List Value, madeCells #[.int .i64 0] m = Z.toArray := ⟨(madeCells #[.int .i64 0] m).toList, by simp⟩
  have hZl : Z.length = m := by
    have h : (madeCells #[.int .i64 0] m).size = m := by simp [madeCells]
    rw [hZ] at h; simpa using h
  have HN : Hid ((w.alloc (.cells (madeCells #[.int .i64 0] m) 2)).heap[w.heap.size]? = some (.cells Z.toArray 2 (0, 0))) := by show _ = _; rw [hnew, hZ]
  have HL : Hid (Z.length = m) := hZl
  clear hZ hZl hnew
  have hb0 := box_below w (.cells (madeCells #[.int .i64 0] m) 2)
  have hx1 := (hb0.cell (p := xo) hxl).trans hx
  by_cases hm0 : m = 0
  · subst hm0
    have hmk0 : ∀ w, (Instr.makeSlice 26 (.int .i64 0) (.int .i64 0)).run Tryz.prog w = .ok (.slice (some ⟨w.heap.size, 0, none⟩) 0 0) (w.alloc (.cells (madeCells #[.int .i64 0] 0) 2)) := by simpa using hmk
    clear hmk
    have hrun := fun ty => run_copy_none (P := Tryz.prog) (w.alloc (.cells (madeCells #[.int .i64 0] 0) 2)) 26 26 ty 2 (some ⟨w.heap.size, 0, none⟩) (some xo) 0 0 1 c Tryz.underlying26 infoL (by simp)
    go_enter Tryz.func87, Tryz.ntmps87
    go_wp2_with (go_at_call 100; refine (hb _).mono ?_; rintro e w' ⟨rfl, hw⟩; rw [hw]; clear hw w')
    refine wp_loop_rounds 1 ?_
    rw [rounds_succ]
    go_wp2
    go_ret
    refine ⟨_, _, rfl, Fl.ft ⟨Z, HN.out, HL.out, fun j hj => by omega⟩ (Nat.le_refl _) (by omega) h1 h2, hb0⟩
  obtain ⟨w1, hrun, hg1, hb1⟩ := run_splice (w := w.alloc (.cells (madeCells #[.int .i64 0] m) 2)) 3 (some ⟨w.heap.size, 0, none⟩) (some xo) m m 1 c w.heap.size 0 Z HN.out (List.replicate 1 (.int .i64 v)) (by rw [List.length_replicate]; exact (Nat.min_eq_left (by omega)).symm) (by
    intro _
    refine ⟨rfl, xo, rfl, fun j u hu => ?_⟩
    have hj : j < 1 := by have := (List.getElem?_eq_some_iff.1 hu).1; simpa using this
    obtain rfl : j = 0 := by omega
    rw [List.getElem?_replicate_of_lt hj] at hu
    cases hu
    have e0 : xo.add 0 = xo := by cases xo; rfl
    rw [e0]; exact hx1) (by simp; have := HL.out; omega) (ones v 1) w.heap.size w hb0 (Nat.le_refl _)
  have F1 : Fl w1 w.heap.size m 1 v := by
    have := Fl.splice (c := 1) hg1 HL.out (by omega) (fun j hj => by omega)
    simpa using this
  rw [List.length_replicate] at hrun
  clear hg1 HN HL hb0 hx1 hx
  go_enter Tryz.func87, Tryz.ntmps87
  go_wp2_with (go_at_call 100; refine (hb _).mono ?_; rintro e w' ⟨rfl, hw⟩; rw [hw]; clear hw w')
  clear hrun hmk
  go_loopw [8] (fun i wr => ∃ k : Nat, 1 ≤ k ∧ k ≤ m ∧ i = .int .i64 (k : Nat) ∧ Fl wr w.heap.size m k v ∧ Below w.heap.size w wr) (fun i _ => m - (intOf i).toNat)
  case atStart => exact ⟨1, by omega, by omega, rfl, F1, hb1⟩
  case round =>
    obtain ⟨k, hk1, hk2, rfl, FK, hbk⟩ := hrel
    by_cases hlt : k < m
    · obtain ⟨cc, hcc⟩ : ∃ cc, cc = Nat.min k (m - k) := ⟨_, rfl⟩
      have hc1 : cc ≤ k := by rw [hcc]; exact Nat.min_le_left _ _
      have hc2 : cc ≤ m - k := by rw [hcc]; exact Nat.min_le_right _ _
      have hc3 : 1 ≤ cc := by rw [hcc]; exact Nat.le_min.2 ⟨hk1, by omega⟩
      have HC : Hid (cc = Nat.min k (m - k)) := hcc
      clear hcc
      have hi1 : (k : Int) ≤ (m : Int) := by omega
      have hne : ¬ m = k := by omega
      have ww : IntKind.i64.wrap ((k : Int) + (cc : Int)) = (k : Int) + (cc : Int) := wrapIn _ (by omega)
      go_wp2
      have S0 : Fl wr w.heap.size m k v ∧ Below w.heap.size w wr := ⟨FK, hbk⟩
      go_region_held3 (fun W => Fl W w.heap.size m k v ∧ Below w.heap.size w W) (first | assumption | exact ⟨⟨FK.row⟩, hbk.drew⟩)
        (first
          | (obtain ⟨FW, bW⟩ := ‹Fl _ w.heap.size m k v ∧ Below w.heap.size w _›; obtain ⟨cur, d1, d2, d3⟩ := FW.row; refine step_copy_splice rfl (.tmp 41) (.tmp 44) 26 26 rfl 2 Tryz.underlying26 infoL _ _ _ _ _ _ rfl rfl w.heap.size k cur 2 d1 (List.replicate cc (.int .i64 v)) (by rw [List.length_replicate]; exact HC.out) (fun _ => ⟨rfl, _, rfl, fun j u hu => fill_src FW hc1 hu⟩) (by rw [List.length_replicate]; omega) (ones v cc) w.heap.size w bW (Nat.le_refl _) ?_; intro w2 HG2 hb2; rw [List.length_replicate]; have F2 := Fl.splice HG2.out d2 (by omega) d3; have S2 : Fl w2 w.heap.size m k v ∧ Below w.heap.size w w2 := ⟨F2.less (by omega), hb2⟩))
      go_wp2
      go_roundw
      case rel => exact ⟨k + cc, by omega, by omega, by go_num, F2, hb2⟩
      case measure => simp [intOf]; omega
    · obtain rfl : k = m := by omega
      go_wp2
      go_ret
      exact ⟨_, _, rfl, FK.ft (Nat.le_refl _) hm h1 h2, hbk⟩
end Go.Proofs.YtmepcenbaohcoaaGreat
