
/- Contract: slices.Repeat of any list of numbers. -/

import Derived.Test.YtjnlkdeiccllgaaZC

namespace Go.Proofs.Ytjnlkdeiccllgaa

open Go.RowKit

set_option linter.unusedVariables false

/-- A list, so often one behind the other. -/
def repL (xs : List Int) (c : Nat) : List Int := (List.replicate c xs).flatten
theorem repL_len (xs : List Int) (c : Nat) : (repL xs c).length = xs.length * c := by simp [repL, Nat.mul_comm]
theorem repL_succ (xs : List Int) (c : Nat) : repL xs (c + 1) = xs ++ repL xs c := by simp [repL, List.replicate_succ]
theorem repL_nth (xs : List Int) : ∀ (c j : Nat), j < xs.length * c → nth (repL xs c) j = nth xs (j % xs.length)
  | 0, j, h => by simp at h
  | c + 1, j, h => by
    rw [repL_succ]
    by_cases hj : j < xs.length
    · rw [Nat.mod_eq_of_lt hj]; unfold nth
      rw [List.getD_eq_getElem?_getD, List.getD_eq_getElem?_getD, List.getElem?_append_left hj]
    · rw [Nat.mul_succ] at h
      have ih := repL_nth xs c (j - xs.length) (by omega)
      rw [Nat.mod_eq_sub_mod (by omega), ← ih]
      unfold nth
      rw [List.getD_eq_getElem?_getD, List.getD_eq_getElem?_getD, List.getElem?_append_right (by omega)]
theorem repL_one (x : Int) (c : Nat) : repL [x] c = List.replicate c x := by
  induction c with
  | zero => rfl
  | succ c ih => rw [repL_succ, ih]; rfl

theorem bitsMulN (x y N : Nat) (hN : x * y = N) (hN2 : N ≤ 4294967296) (hx : x < 18446744073709551616) (hy : y < 18446744073709551616) (w : World) : Calls Try.prog 63 #[.int .u64 (x : Nat), .int .u64 (y : Nat)] w fun e w' => e = .returned (.tuple #[.int .u64 0, .int .u64 (N : Nat)]) ∧ w' = w := by
  have h := fun w => bitsMul64 x y hx hy w
  rw [hN, Nat.div_eq_of_lt (by omega), Nat.mod_eq_of_lt (by omega)] at h
  clear hN
  go_enter Try.func63, Try.ntmps63
  go_wp2_with (go_at_call 73; refine (h _).mono ?_; rintro e w' ⟨rfl, hw⟩; rw [hw]; clear hw w')
  go_ret2
  exact ⟨rfl, rfl⟩

def fcs (f : Nat → Int) (c : Nat) : List Value := (List.range c).map (fun j => .int .i64 (f j))
theorem fcs_len (f : Nat → Int) (c : Nat) : (fcs f c).length = c := by simp [fcs]
theorem fcs_at {f : Nat → Int} {c j : Nat} {u : Value} (h : (fcs f c)[j]? = some u) : j < c ∧ u = .int .i64 (f j) := by
  have hj : j < c := by have := (List.getElem?_eq_some_iff.1 h).1; rwa [fcs_len] at this
  refine ⟨hj, ?_⟩
  simp [fcs, hj] at h
  exact h.symm
theorem fcs_ones (f : Nat → Int) (c : Nat) : ∀ u ∈ fcs f c, u.oneCell' = true := by
  intro u hu
  obtain ⟨j, _, rfl⟩ := List.mem_map.1 hu
  rfl
/-- A row of m cells whose first k hold f's numbers. -/
structure Fg (W : World) (g m k : Nat) (f : Nat → Int) : Prop where
  row : ∃ cur : List Value, W.heap[g]? = some (.cells cur.toArray 2 (0, 0)) ∧ cur.length = m ∧ ∀ j, j < k → cur[j]? = some (.int .i64 (f j))
theorem Fg.cell {W : World} {g m k : Nat} {f : Nat → Int} (h : Fg W g m k f) {j : Nat} (hj : j < k) : W.cell? ⟨g, j, none⟩ = some (.int .i64 (f j)) := by
  obtain ⟨cur, h1, h2, h3⟩ := h.row
  rw [cell_of_row W g j _ _ (0, 0) h1]
  simpa using h3 j hj
theorem Fg.less {W : World} {g m k k' : Nat} {f : Nat → Int} (h : Fg W g m k f) (hk : k' ≤ k) : Fg W g m k' f := by
  obtain ⟨cur, h1, h2, h3⟩ := h.row
  exact ⟨cur, h1, h2, fun j hj => h3 j (by omega)⟩
theorem fill_srcG {W : World} {g m k cc : Nat} {f : Nat → Int} (h : Fg W g m k f) (hc : cc ≤ k) {j : Nat} {u : Value} (hu : (fcs f cc)[j]? = some u) : W.cell? ((⟨g, 0, none⟩ : Addr).add j) = some u := by
  obtain ⟨hj, rfl⟩ := fcs_at hu
  rw [add_at, Nat.zero_add]
  exact h.cell (by omega)
theorem splice_atG {cur : List Value} {k c : Nat} {f : Nat → Int} (hk : k + c ≤ cur.length) (h : ∀ j, j < k → cur[j]? = some (.int .i64 (f j))) (hp : ∀ j, j < c → f (k + j) = f j) : ∀ j, j < k + c → (splice cur k (fcs f c))[j]? = some (.int .i64 (f j)) := by
  intro j hj
  unfold splice
  by_cases hjk : j < k
  · rw [List.getElem?_append_left (by simp; omega), List.getElem?_take_of_lt hjk]; exact h j hjk
  · rw [List.getElem?_append_right (by simp; omega), List.getElem?_append_left (by simp [fcs]; omega)]
    have e := hp (j - k) (by omega)
    rw [show k + (j - k) = j by omega] at e
    have hj2 : j - k < c := by omega
    simp [fcs, Nat.min_eq_left (show k ≤ cur.length by omega), hj2, e]
theorem Fg.splice {W : World} {g m k c : Nat} {f : Nat → Int} {cur : List Value} (h : W.heap[g]? = some (.cells (Go.splice cur k (fcs f c)).toArray 2 (0, 0))) (hl : cur.length = m) (hk : k + c ≤ m) (hc : ∀ j, j < k → cur[j]? = some (.int .i64 (f j))) (hp : ∀ j, j < c → f (k + j) = f j) : Fg W g m (k + c) f :=
  ⟨_, h, by rw [length_splice _ _ _ (by rw [fcs_len]; omega)]; exact hl, splice_atG (by omega) hc hp⟩
theorem Fg.ft {W : World} {B g m : Nat} {f : Nat → Int} (h : Fg W g m m f) (hB : B ≤ g) (hm : m ≤ 4096) (ys : List Int) (hl : ys.length = m) (hy : ∀ j, j < m → nth ys j = f j) (hn : ∀ j, j < m → -9223372036854775808 ≤ f j ∧ f j ≤ 9223372036854775807) : Ft 2 W B (some ⟨g, 0, none⟩) m m ys := by
  obtain ⟨cur, c1, c2, c3⟩ := h.row
  have hown : W.ownsRow B 2 1 (.slice (some ⟨g, 0, none⟩) m m) m (ys.map (Value.int .i64)) := by
    refine ⟨by simp [hl], .inr ⟨g, m, cur.toArray, rfl, hB, c1, Nat.le_refl _, by unfold maxLen; omega, by simp [c2], ?_⟩⟩
    rw [Nat.mul_one]
    apply List.ext_getElem?
    intro i
    by_cases hi : i < m
    · rw [List.getElem?_take_of_lt hi]
      rw [c3 i hi, nth_map (by omega), hy i hi]
    · rw [List.getElem?_eq_none (by simp; omega), List.getElem?_eq_none (by simp [hl]; omega)]
  obtain ⟨ao, cap, e, hf⟩ := Ft.mk' (zs := ys) hl (by omega) (fun k hk => by rw [hy k hk]; exact hn k hk) hown
  cases e
  exact hf
theorem mod_back {m k j : Nat} (hd : m ∣ k) : (k + j) % m = j % m := by
  obtain ⟨q, rfl⟩ := hd
  exact Nat.mul_add_mod _ _ _

set_option maxHeartbeats 4000000 in
set_option maxRecDepth 20000 in
theorem repeatL_any (xo : Option Addr) (m xc c N : Nat) (xs : List Int) (w : World) (h : Rd w xo m xs) (hN : m * c = N) (hN4 : N ≤ 4096) (hm : m ≤ 4096) (hc : c ≤ 4096) :
    Calls Try.prog 56 #[.slice xo m xc, .int .i64 (c : Nat)] w fun e w' => ∃ ao cap, e = .returned (.slice ao N cap) ∧ Ft 2 w' w.heap.size ao N cap (repL xs c) ∧ Below w.heap.size w w' := by
  have hb := fun w => bitsMulN m c N hN (by omega) (by omega) (by omega) w
  have hmk := run_make_row' (P := Try.prog) 24 2 (.int .i64 0) 8 Try.underlying24 infoL3 rfl .i64 .i64 N (by omega) (by omega)
  have hnew := allocNew w (.cells (madeCells #[.int .i64 0] N) 2)
  obtain ⟨Z, hZ⟩ : ∃ Z : List Value, madeCells #[.int .i64 0] N = Z.toArray := ⟨(madeCells #[.int .i64 0] N).toList, by simp⟩
  have hZl : Z.length = N := by
    have h : (madeCells #[.int .i64 0] N).size = N := by simp [madeCells]
    rw [hZ] at h; simpa using h
  have HN : Hid ((w.alloc (.cells (madeCells #[.int .i64 0] N) 2)).heap[w.heap.size]? = some (.cells Z.toArray 2 (0, 0))) := by show _ = _; rw [hnew, hZ]
  have HL : Hid (Z.length = N) := hZl
  have HX : Hid (xs.length = m) := h.len
  have HM : Hid (m * c = N) := hN
  clear hZ hZl hnew hN
  have hb0 := box_below w (.cells (madeCells #[.int .i64 0] N) 2)
  have HR : Hid (∀ j, j < N → nth (repL xs c) j = nth xs (j % m)) := fun j hj => by rw [repL_nth xs c j (by rw [HX.out, HM.out]; exact hj), HX.out]
  have HRL : Hid ((repL xs c).length = N) := by show _ = _; rw [repL_len, HX.out, HM.out]
  by_cases hm0 : N = 0
  · subst hm0
    have hmk0 : ∀ w, (Instr.makeSlice 24 (.int .i64 0) (.int .i64 0)).run Try.prog w = .ok (.slice (some ⟨w.heap.size, 0, none⟩) 0 0) (w.alloc (.cells (madeCells #[.int .i64 0] 0) 2)) := by simpa using hmk
    clear hmk
    have hrun := fun ty => run_copy_none (P := Try.prog) (w.alloc (.cells (madeCells #[.int .i64 0] 0) 2)) 24 24 ty 2 (some ⟨w.heap.size, 0, none⟩) xo 0 0 m xc Try.underlying24 infoL (by simp)
    have t1 : decide ((c : Int) < 0) = false := by simp
    have u1 : IntKind.u64.wrap (m : Int) = (m : Int) := wrapNn m (by omega)
    have u2 : IntKind.u64.wrap (c : Int) = (c : Int) := wrapNn c (by omega)
    go_enter Try.func56, Try.ntmps56
    go_wp2_with (go_at_call 63; refine (hb _).mono ?_; rintro e w' ⟨rfl, hw⟩; rw [hw]; clear hw w')
    refine wp_loop_rounds 1 ?_
    rw [rounds_succ]
    go_wp2
    go_ret
    have hr0 : repL xs c = [] := List.eq_nil_of_length_eq_zero HRL.out
    rw [hr0]
    exact ⟨_, _, rfl, Fg.ft (f := fun _ => 0) ⟨Z, HN.out, HL.out, fun j hj => by omega⟩ (Nat.le_refl _) (by omega) [] rfl (fun j hj => by omega) (fun j hj => by omega), hb0⟩
  have hmp : 0 < m := by
    rcases Nat.eq_zero_or_pos m with e | e
    · have := HM.out; rw [e, Nat.zero_mul] at this; omega
    · exact e
  have hcp : 0 < c := by
    rcases Nat.eq_zero_or_pos c with e | e
    · have := HM.out; rw [e, Nat.mul_zero] at this; omega
    · exact e
  have hmN : m ≤ N := by have := Nat.mul_le_mul_left m hcp; rw [Nat.mul_one, HM.out] at this; exact this
  have HB : Hid (∀ j, -9223372036854775808 ≤ nth xs (j % m) ∧ nth xs (j % m) ≤ 9223372036854775807) := fun j => h.num _ (Nat.mod_lt _ hmp)
  obtain ⟨b, off, rfl, hbl, hcs⟩ := (h.below hb0 (Nat.le_refl _)).cells hmp
  obtain ⟨w1, hrun, hg1, hb1⟩ := run_splice (w := w.alloc (.cells (madeCells #[.int .i64 0] N) 2)) 3 (some ⟨w.heap.size, 0, none⟩) (some ⟨b, off, none⟩) N N m xc w.heap.size 0 Z HN.out (fcs (fun j => nth xs (j % m)) m) (by rw [fcs_len]; exact (Nat.min_eq_left hmN).symm) (by
    intro _
    refine ⟨rfl, _, rfl, fun j u hu => ?_⟩
    obtain ⟨hj, rfl⟩ := fcs_at hu
    rw [add_at, hcs j hj, Nat.mod_eq_of_lt hj]) (by rw [fcs_len]; have := HL.out; omega) (fcs_ones _ m) w.heap.size w hb0 (Nat.le_refl _)
  have F1 : Fg w1 w.heap.size N m (fun j => nth xs (j % m)) := by
    have := Fg.splice (c := m) (k := 0) (m := N) hg1 HL.out (by omega) (fun j hj => by omega) (fun j hj => by rw [Nat.zero_add])
    rwa [Nat.zero_add] at this
  rw [fcs_len] at hrun
  have t1 : decide ((c : Int) < 0) = false := by simp
  have u1 : IntKind.u64.wrap (m : Int) = (m : Int) := wrapNn m (by omega)
  have u2 : IntKind.u64.wrap (c : Int) = (c : Int) := wrapNn c (by omega)
  have hd0 : m ∣ m := Nat.dvd_refl _
  have hdN : Hid (m ∣ N) := ⟨c, HM.out.symm⟩
  clear hg1 HN HL hb0 hcs
  generalize hf : (fun j => nth xs (j % m)) = f at *
  have HF : Hid (∀ k j, m ∣ k → f (k + j) = f j) := fun k j hd => by rw [← hf]; show nth xs ((k + j) % m) = nth xs (j % m); rw [mod_back hd]
  have HFn : Hid (∀ j, f j = nth xs (j % m)) := fun j => by rw [← hf]
  clear hf
  go_enter Try.func56, Try.ntmps56
  go_wp2_with (go_at_call 63; refine (hb _).mono ?_; rintro e w' ⟨rfl, hw⟩; rw [hw]; clear hw w')
  clear hrun hmk
  go_loopw [8] (fun i wr => ∃ k : Nat, 1 ≤ k ∧ k ≤ N ∧ i = .int .i64 (k : Nat) ∧ m ∣ k ∧ Fg wr w.heap.size N k f ∧ Below w.heap.size w wr) (fun i _ => N - (intOf i).toNat)
  case atStart => exact ⟨m, by omega, by omega, rfl, hd0, F1, hb1⟩
  case round =>
    obtain ⟨k, hk1, hk2, rfl, hd, FK, hbk⟩ := hrel
    by_cases hlt : k < N
    · obtain ⟨cc, hcc⟩ : ∃ cc, cc = Nat.min k (N - k) := ⟨_, rfl⟩
      have hc1 : cc ≤ k := by rw [hcc]; exact Nat.min_le_left _ _
      have hc2 : cc ≤ N - k := by rw [hcc]; exact Nat.min_le_right _ _
      have hc3 : 1 ≤ cc := by rw [hcc]; exact Nat.le_min.2 ⟨hk1, by omega⟩
      have HDD : Hid (m ∣ k + cc) := by
        rcases Nat.le_total k (N - k) with e | e
        · have : cc = k := by rw [hcc]; exact Nat.min_eq_left e
          rw [this]; exact Nat.dvd_add hd hd
        · have : cc = N - k := by rw [hcc]; exact Nat.min_eq_right e
          rw [this, show k + (N - k) = N by omega]; exact hdN.out
      have HC : Hid (cc = Nat.min k (N - k)) := hcc
      have HD : Hid (m ∣ k) := hd
      clear hcc hd
      have hi1 : (k : Int) ≤ (N : Int) := by omega
      have hne : ¬ N = k := by omega
      have ww : IntKind.i64.wrap ((k : Int) + (cc : Int)) = (k : Int) + (cc : Int) := wrapIn _ (by omega)
      go_wp2
      have S0 : Fg wr w.heap.size N k f ∧ Below w.heap.size w wr := ⟨FK, hbk⟩
      go_region_held3 (fun W => Fg W w.heap.size N k f ∧ Below w.heap.size w W) (first | assumption | exact ⟨⟨FK.row⟩, hbk.drew⟩)
        (first
          | (obtain ⟨FW, bW⟩ := ‹Fg _ w.heap.size N k f ∧ Below w.heap.size w _›; obtain ⟨cur, d1, d2, d3⟩ := FW.row; refine step_copy_splice rfl (.tmp 41) (.tmp 44) 24 24 rfl 2 Try.underlying24 infoL _ _ _ _ _ _ rfl rfl w.heap.size k cur 2 d1 (fcs f cc) (by rw [fcs_len]; exact HC.out) (fun _ => ⟨rfl, _, rfl, fun j u hu => fill_srcG FW hc1 hu⟩) (by rw [fcs_len]; omega) (fcs_ones f cc) w.heap.size w bW (Nat.le_refl _) ?_; intro w2 HG2 hb2; rw [fcs_len]; have F2 := Fg.splice HG2.out d2 (by omega) d3 (fun j _ => HF.out k j HD.out); have S2 : Fg w2 w.heap.size N k f ∧ Below w.heap.size w w2 := ⟨F2.less (by omega), hb2⟩))
      go_wp2
      go_roundw
      case rel => exact ⟨k + cc, by omega, by omega, by go_num, HDD.out, F2, hb2⟩
      case measure => simp [intOf]; omega
    · obtain rfl : k = N := by omega
      have HD : Hid (m ∣ k) := hd
      clear hd
      go_wp2
      go_ret
      exact ⟨_, _, rfl, FK.ft (Nat.le_refl _) hN4 _ HRL.out (fun j hj => by rw [HR.out j hj, HFn.out]) (fun j hj => by rw [HFn.out]; exact HB.out j), hbk⟩
end Go.Proofs.Ytjnlkdeiccllgaa
