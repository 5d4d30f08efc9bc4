
/- Contract of package digit: copying. -/

import Derived.Test.YtelcagfaflpolaaGreatZC
import Derived.WalkMore
import Derived.Deep.QuietTactic
import Derived.BigQuiet

namespace Go.Proofs.YtelcagfaflpolaaGreat

open Go.RowKit

set_option linter.unusedVariables false

/-- A list, so often one behind the other. -/
def repL (xs : List Int) (c : Nat) : List Int := (List.replicate c xs).flatten
theorem repL_len (xs : List Int) (c : Nat) : (repL xs c).length = xs.length * c := by simp [repL, Nat.mul_comm]
theorem repL_succ (xs : List Int) (c : Nat) : repL xs (c + 1) = xs ++ repL xs c := by simp [repL, List.replicate_succ]
theorem repL_nth (xs : List Int) : ∀ (c j : Nat), j < xs.length * c → nth (repL xs c) j = nth xs (j % xs.length)
  | 0, j, h => by simp at h
  | c + 1, j, h => by
    rw [repL_succ]
    by_cases hj : j < xs.length
    · rw [Nat.mod_eq_of_lt hj]; unfold nth
      rw [List.getD_eq_getElem?_getD, List.getD_eq_getElem?_getD, List.getElem?_append_left hj]
    · rw [Nat.mul_succ] at h
      have ih := repL_nth xs c (j - xs.length) (by omega)
      rw [Nat.mod_eq_sub_mod (by omega), ← ih]
      unfold nth
      rw [List.getD_eq_getElem?_getD, List.getD_eq_getElem?_getD, List.getElem?_append_right (by omega)]
theorem repL_one (x : Int) (c : Nat) : repL [x] c = List.replicate c x := by
  induction c with
  | zero => rfl
  | succ c ih => rw [repL_succ, ih]; rfl

theorem bitsMulN (x y N : Nat) (hN : x * y = N) (hN2 : N ≤ 4294967296) (hx : x < 18446744073709551616) (hy : y < 18446744073709551616) (w : World) : Calls Tryz.prog 65 #[.int .u64 (x : Nat), .int .u64 (y : Nat)] w fun e w' => e = .returned (.tuple #[.int .u64 0, .int .u64 (N : Nat)]) ∧ w' = w := by
  have h := fun w => bitsMul64 x y hx hy w
  rw [hN, Nat.div_eq_of_lt (by omega), Nat.mod_eq_of_lt (by omega)] at h
  clear hN
  go_enter Tryz.func65, Tryz.ntmps65
  go_wp2_with (go_at_call 80; refine (h _).mono ?_; rintro e w' ⟨rfl, hw⟩; rw [hw]; clear hw w')
  go_ret2
  exact ⟨rfl, rfl⟩

def fcs (f : Nat → Int) (c : Nat) : List Value := (List.range c).map (fun j => .int .i64 (f j))
theorem fcs_len (f : Nat → Int) (c : Nat) : (fcs f c).length = c := by simp [fcs]
theorem fcs_at {f : Nat → Int} {c j : Nat} {u : Value} (h : (fcs f c)[j]? = some u) : j < c ∧ u = .int .i64 (f j) := by
  have hj : j < c := by have := (List.getElem?_eq_some_iff.1 h).1; rwa [fcs_len] at this
  refine ⟨hj, ?_⟩
  simp [fcs, hj] at h
  exact h.symm
theorem fcs_ones (f : Nat → Int) (c : Nat) : ∀ u ∈ fcs f c, u.oneCell' = true := by
  intro u hu
  obtain ⟨j, _, rfl⟩ := List.mem_map.1 hu
  rfl
/-- A row of m cells whose first k hold f's numbers. -/
structure Fg (W : World) (g m k : Nat) (f : Nat → Int) : Prop where
  row : ∃ cur : List Value, W.heap[g]? = some (.cells cur.toArray 2 (0, 0)) ∧ cur.length = m ∧ ∀ j, j < k → cur[j]? = some (.int .i64 (f j))
theorem Fg.cell {W : World} {g m k : Nat} {f : Nat → Int} (h : Fg W g m k f) {j : Nat} (hj : j < k) : W.cell? ⟨g, j, none⟩ = some (.int .i64 (f j)) := by
  obtain ⟨cur, h1, h2, h3⟩ := h.row
  rw [cell_of_row W g j _ _ (0, 0) h1]
  simpa using h3 j hj
theorem Fg.less {W : World} {g m k k' : Nat} {f : Nat → Int} (h : Fg W g m k f) (hk : k' ≤ k) : Fg W g m k' f := by
  obtain ⟨cur, h1, h2, h3⟩ := h.row
  exact ⟨cur, h1, h2, fun j hj => h3 j (by omega)⟩
theorem fill_srcG {W : World} {g m k cc : Nat} {f : Nat → Int} (h : Fg W g m k f) (hc : cc ≤ k) {j : Nat} {u : Value} (hu : (fcs f cc)[j]? = some u) : W.cell? ((⟨g, 0, none⟩ : Addr).add j) = some u := by
  obtain ⟨hj, rfl⟩ := fcs_at hu
  rw [add_at, Nat.zero_add]
  exact h.cell (by omega)
theorem splice_atG {cur : List Value} {k c : Nat} {f : Nat → Int} (hk : k + c ≤ cur.length) (h : ∀ j, j < k → cur[j]? = some (.int .i64 (f j))) (hp : ∀ j, j < c → f (k + j) = f j) : ∀ j, j < k + c → (splice cur k (fcs f c))[j]? = some (.int .i64 (f j)) := by
  intro j hj
  unfold splice
  by_cases hjk : j < k
  · rw [List.getElem?_append_left (by simp; omega), List.getElem?_take_of_lt hjk]; exact h j hjk
  · rw [List.getElem?_append_right (by simp; omega), List.getElem?_append_left (by simp [fcs]; omega)]
    have e := hp (j - k) (by omega)
    rw [show k + (j - k) = j by omega] at e
    have hj2 : j - k < c := by omega
    simp [fcs, Nat.min_eq_left (show k ≤ cur.length by omega), hj2, e]
theorem Fg.splice {W : World} {g m k c : Nat} {f : Nat → Int} {cur : List Value} (h : W.heap[g]? = some (.cells (Go.splice cur k (fcs f c)).toArray 2 (0, 0))) (hl : cur.length = m) (hk : k + c ≤ m) (hc : ∀ j, j < k → cur[j]? = some (.int .i64 (f j))) (hp : ∀ j, j < c → f (k + j) = f j) : Fg W g m (k + c) f :=
  ⟨_, h, by rw [length_splice _ _ _ (by rw [fcs_len]; omega)]; exact hl, splice_atG (by omega) hc hp⟩
theorem Fg.ft {W : World} {B g m : Nat} {f : Nat → Int} (h : Fg W g m m f) (hB : B ≤ g) (hm : m ≤ 4096) (ys : List Int) (hl : ys.length = m) (hy : ∀ j, j < m → nth ys j = f j) (hn : ∀ j, j < m → -9223372036854775808 ≤ f j ∧ f j ≤ 9223372036854775807) : Ft 2 W B (some ⟨g, 0, none⟩) m m ys := by
  obtain ⟨cur, c1, c2, c3⟩ := h.row
  have hown : W.ownsRow B 2 1 (.slice (some ⟨g, 0, none⟩) m m) m (ys.map (Value.int .i64)) := by
    refine ⟨by simp [hl], .inr ⟨g, m, cur.toArray, rfl, hB, c1, Nat.le_refl _, by unfold maxLen; omega, by simp [c2], ?_⟩⟩
    rw [Nat.mul_one]
    apply List.ext_getElem?
    intro i
    by_cases hi : i < m
    · rw [List.getElem?_take_of_lt hi]
      rw [c3 i hi, nth_map (by omega), hy i hi]
    · rw [List.getElem?_eq_none (by simp; omega), List.getElem?_eq_none (by simp [hl]; omega)]
  obtain ⟨ao, cap, e, hf⟩ := Ft.mk' (zs := ys) hl (by omega) (fun k hk => by rw [hy k hk]; exact hn k hk) hown
  cases e
  exact hf
theorem mod_back {m k j : Nat} (hd : m ∣ k) : (k + j) % m = j % m := by
  obtain ⟨q, rfl⟩ := hd
  exact Nat.mul_add_mod _ _ _

set_option maxHeartbeats 4000000 in
set_option maxRecDepth 20000 in
theorem repeatL_any (xo : Option Addr) (m xc c N : Nat) (xs : List Int) (w : World) (h : Rd w xo m xs) (hN : m * c = N) (hN4 : N ≤ 4096) (hm : m ≤ 4096) (hc : c ≤ 4096) :
    Calls Tryz.prog 47 #[.slice xo m xc, .int .i64 (c : Nat)] w fun e w' => ∃ ao cap, e = .returned (.slice ao N cap) ∧ Ft 2 w' w.heap.size ao N cap (repL xs c) ∧ Below w.heap.size w w' := by
  have hb := fun w => bitsMulN m c N hN (by omega) (by omega) (by omega) w
  have hmk := run_make_row' (P := Tryz.prog) 34 2 (.int .i64 0) 8 Tryz.underlying34 infoL3 rfl .i64 .i64 N (by omega) (by omega)
  have hnew := allocNew w (.cells (madeCells #[.int .i64 0] N) 2)
  obtain ⟨Z, hZ⟩ : ∃ Z : List Value, madeCells #[.int .i64 0] N = Z.toArray := ⟨(madeCells #[.int .i64 0] N).toList, by simp⟩
  have hZl : Z.length = N := by
    have h : (madeCells #[.int .i64 0] N).size = N := by simp [madeCells]
    rw [hZ] at h; simpa using h
  have HN : Hid ((w.alloc (.cells (madeCells #[.int .i64 0] N) 2)).heap[w.heap.size]? = some (.cells Z.toArray 2 (0, 0))) := by show _ = _; rw [hnew, hZ]
  have HL : Hid (Z.length = N) := hZl
  have HX : Hid (xs.length = m) := h.len
  have HM : Hid (m * c = N) := hN
  clear hZ hZl hnew hN
  have hb0 := box_below w (.cells (madeCells #[.int .i64 0] N) 2)
  have HR : Hid (∀ j, j < N → nth (repL xs c) j = nth xs (j % m)) := fun j hj => by rw [repL_nth xs c j (by rw [HX.out, HM.out]; exact hj), HX.out]
  have HRL : Hid ((repL xs c).length = N) := by show _ = _; rw [repL_len, HX.out, HM.out]
  by_cases hm0 : N = 0
  · subst hm0
    have hmk0 : ∀ w, (Instr.makeSlice 34 (.int .i64 0) (.int .i64 0)).run Tryz.prog w = .ok (.slice (some ⟨w.heap.size, 0, none⟩) 0 0) (w.alloc (.cells (madeCells #[.int .i64 0] 0) 2)) := by simpa using hmk
    clear hmk
    have hrun := fun ty => run_copy_none (P := Tryz.prog) (w.alloc (.cells (madeCells #[.int .i64 0] 0) 2)) 34 34 ty 2 (some ⟨w.heap.size, 0, none⟩) xo 0 0 m xc Tryz.underlying34 infoL (by simp)
    have t1 : decide ((c : Int) < 0) = false := by simp
    have u1 : IntKind.u64.wrap (m : Int) = (m : Int) := wrapNn m (by omega)
    have u2 : IntKind.u64.wrap (c : Int) = (c : Int) := wrapNn c (by omega)
    go_enter Tryz.func47, Tryz.ntmps47
    go_wp2_with (go_at_call 65; refine (hb _).mono ?_; rintro e w' ⟨rfl, hw⟩; rw [hw]; clear hw w')
    refine wp_loop_rounds 1 ?_
    rw [rounds_succ]
    go_wp2
    go_ret
    have hr0 : repL xs c = [] := List.eq_nil_of_length_eq_zero HRL.out
    rw [hr0]
    exact ⟨_, _, rfl, Fg.ft (f := fun _ => 0) ⟨Z, HN.out, HL.out, fun j hj => by omega⟩ (Nat.le_refl _) (by omega) [] rfl (fun j hj => by omega) (fun j hj => by omega), hb0⟩
  have hmp : 0 < m := by
    rcases Nat.eq_zero_or_pos m with e | e
    · have := HM.out; rw [e, Nat.zero_mul] at this; omega
    · exact e
  have hcp : 0 < c := by
    rcases Nat.eq_zero_or_pos c with e | e
    · have := HM.out; rw [e, Nat.mul_zero] at this; omega
    · exact e
  have hmN : m ≤ N := by have := Nat.mul_le_mul_left m hcp; rw [Nat.mul_one, HM.out] at this; exact this
  have HB : Hid (∀ j, -9223372036854775808 ≤ nth xs (j % m) ∧ nth xs (j % m) ≤ 9223372036854775807) := fun j => h.num _ (Nat.mod_lt _ hmp)
  obtain ⟨b, off, rfl, hbl, hcs⟩ := (h.below hb0 (Nat.le_refl _)).cells hmp
  obtain ⟨w1, hrun, hg1, hb1⟩ := run_splice (w := w.alloc (.cells (madeCells #[.int .i64 0] N) 2)) 3 (some ⟨w.heap.size, 0, none⟩) (some ⟨b, off, none⟩) N N m xc w.heap.size 0 Z HN.out (fcs (fun j => nth xs (j % m)) m) (by rw [fcs_len]; exact (Nat.min_eq_left hmN).symm) (by
    intro _
    refine ⟨rfl, _, rfl, fun j u hu => ?_⟩
    obtain ⟨hj, rfl⟩ := fcs_at hu
    rw [add_at, hcs j hj, Nat.mod_eq_of_lt hj]) (by rw [fcs_len]; have := HL.out; omega) (fcs_ones _ m) w.heap.size w hb0 (Nat.le_refl _)
  have F1 : Fg w1 w.heap.size N m (fun j => nth xs (j % m)) := by
    have := Fg.splice (c := m) (k := 0) (m := N) hg1 HL.out (by omega) (fun j hj => by omega) (fun j hj => by rw [Nat.zero_add])
    rwa [Nat.zero_add] at this
  rw [fcs_len] at hrun
  have t1 : decide ((c : Int) < 0) = false := by simp
  have u1 : IntKind.u64.wrap (m : Int) = (m : Int) := wrapNn m (by omega)
  have u2 : IntKind.u64.wrap (c : Int) = (c : Int) := wrapNn c (by omega)
  have hd0 : m ∣ m := Nat.dvd_refl _
  have hdN : Hid (m ∣ N) := ⟨c, HM.out.symm⟩
  clear hg1 HN HL hb0 hcs
  generalize hf : (fun j => nth xs (j % m)) = f at *
  have HF : Hid (∀ k j, m ∣ k → f (k + j) = f j) := fun k j hd => by rw [← hf]; show nth xs ((k + j) % m) = nth xs (j % m); rw [mod_back hd]
  have HFn : Hid (∀ j, f j = nth xs (j % m)) := fun j => by rw [← hf]
  clear hf
  go_enter Tryz.func47, Tryz.ntmps47
  go_wp2_with (go_at_call 65; refine (hb _).mono ?_; rintro e w' ⟨rfl, hw⟩; rw [hw]; clear hw w')
  clear hrun hmk
  go_loopw [8] (fun i wr => ∃ k : Nat, 1 ≤ k ∧ k ≤ N ∧ i = .int .i64 (k : Nat) ∧ m ∣ k ∧ Fg wr w.heap.size N k f ∧ Below w.heap.size w wr) (fun i _ => N - (intOf i).toNat)
  case atStart => exact ⟨m, by omega, by omega, rfl, hd0, F1, hb1⟩
  case round =>
    obtain ⟨k, hk1, hk2, rfl, hd, FK, hbk⟩ := hrel
    by_cases hlt : k < N
    · obtain ⟨cc, hcc⟩ : ∃ cc, cc = Nat.min k (N - k) := ⟨_, rfl⟩
      have hc1 : cc ≤ k := by rw [hcc]; exact Nat.min_le_left _ _
      have hc2 : cc ≤ N - k := by rw [hcc]; exact Nat.min_le_right _ _
      have hc3 : 1 ≤ cc := by rw [hcc]; exact Nat.le_min.2 ⟨hk1, by omega⟩
      have HDD : Hid (m ∣ k + cc) := by
        rcases Nat.le_total k (N - k) with e | e
        · have : cc = k := by rw [hcc]; exact Nat.min_eq_left e
          rw [this]; exact Nat.dvd_add hd hd
        · have : cc = N - k := by rw [hcc]; exact Nat.min_eq_right e
          rw [this, show k + (N - k) = N by omega]; exact hdN.out
      have HC : Hid (cc = Nat.min k (N - k)) := hcc
      have HD : Hid (m ∣ k) := hd
      clear hcc hd
      have hi1 : (k : Int) ≤ (N : Int) := by omega
      have hne : ¬ N = k := by omega
      have ww : IntKind.i64.wrap ((k : Int) + (cc : Int)) = (k : Int) + (cc : Int) := wrapIn _ (by omega)
      go_wp2
      have S0 : Fg wr w.heap.size N k f ∧ Below w.heap.size w wr := ⟨FK, hbk⟩
      go_region_held3 (fun W => Fg W w.heap.size N k f ∧ Below w.heap.size w W) (first | assumption | exact ⟨⟨FK.row⟩, hbk.drew⟩)
        (first
          | (obtain ⟨FW, bW⟩ := ‹Fg _ w.heap.size N k f ∧ Below w.heap.size w _›; obtain ⟨cur, d1, d2, d3⟩ := FW.row; refine step_copy_splice rfl (.tmp 41) (.tmp 44) 34 34 rfl 2 Tryz.underlying34 infoL _ _ _ _ _ _ rfl rfl w.heap.size k cur 2 d1 (fcs f cc) (by rw [fcs_len]; exact HC.out) (fun _ => ⟨rfl, _, rfl, fun j u hu => fill_srcG FW hc1 hu⟩) (by rw [fcs_len]; omega) (fcs_ones f cc) w.heap.size w bW (Nat.le_refl _) ?_; intro w2 HG2 hb2; rw [fcs_len]; have F2 := Fg.splice HG2.out d2 (by omega) d3 (fun j _ => HF.out k j HD.out); have S2 : Fg w2 w.heap.size N k f ∧ Below w.heap.size w w2 := ⟨F2.less (by omega), hb2⟩))
      go_wp2
      go_roundw
      case rel => exact ⟨k + cc, by omega, by omega, by go_num, HDD.out, F2, hb2⟩
      case measure => simp [intOf]; omega
    · obtain rfl : k = N := by omega
      have HD : Hid (m ∣ k) := hd
      clear hd
      go_wp2
      go_ret
      exact ⟨_, _, rfl, FK.ft (Nat.le_refl _) hN4 _ HRL.out (fun j hj => by rw [HR.out j hj, HFn.out]) (fun j hj => by rw [HFn.out]; exact HB.out j), hbk⟩
end Go.Proofs.YtelcagfaflpolaaGreat



namespace Go.Proofs.YtelcagfaflpolaaGreat

open Go.RowKit

set_option linter.unusedVariables false

theorem neg1_any (x : Int) (w : World) : Calls Tryz.prog 227 #[.int .i64 x] w fun e w' => e = .returned (.bool (decide (x < 0))) ∧ w' = w := by
  go_enter Tryz.func227, Tryz.ntmps227
  go_wp2
  go_ret
  exact ⟨rfl, rfl⟩

set_option maxHeartbeats 1000000 in
theorem indexNeg_any (ao : Option Addr) (n cap : Nat) (zs : List Int) (w : World) (h : Rd w ao n zs) (hn : n ≤ 4096) :
    Calls Tryz.prog 245 #[.slice ao n cap, .func (.func 227) #[] #[]] w fun e w' => ∃ i : Int, e = .returned (.int .i64 i) ∧ (0 ≤ i ↔ ∃ k, k < n ∧ nth zs k < 0) ∧ w' = w := by
  have hc1 := fun x V => neg1_any x V
  go_enter Tryz.func245, Tryz.ntmps245
  go_wp2
  go_loopw [8] (fun i V => ∃ k : Nat, k ≤ n ∧ i = .int .i64 (k : Nat) ∧ (∀ j, j < k → 0 ≤ nth zs j) ∧ V = w) (fun i _ => n - (intOf i).toNat)
  case atStart => exact ⟨0, Nat.zero_le _, rfl, fun j hj => by omega, rfl⟩
  case round =>
    obtain ⟨k, hk, rfl, hz, rfl⟩ := hrel
    have HZ : Hid (∀ j, j < k → 0 ≤ nth zs j) := hz
    clear hz
    by_cases hlt : k < n
    · obtain ⟨b, off, rfl, hb, hc⟩ := h.cells (by omega)
      have c1 := hc k hlt
      have t1 : decide ((k : Int) < (n : Int)) = true := by simp; omega
      have bk : (k : Int) < (n : Int) := by omega
      clear hc
      by_cases hx : nth zs k < 0
      · have HX : Hid (nth zs k < 0) := hx
        have tx : decide (nth zs k < 0) = true := by simpa using hx
        have c2 := hc1 (nth zs k) wr
        rw [tx] at c2
        clear hx tx
        generalize hy : nth zs k = x at *
        have HY : Hid (nth zs k = x) := hy
        clear hy
        go_wp2_with (go_at_call 227; (with_reducible refine c2.mono ?_); rintro e w1 ⟨rfl, hw⟩; rw [hw]; clear hw w1)
        go_ret
        exact ⟨_, rfl, ⟨fun _ => ⟨k, hlt, by rw [HY.out]; exact HX.out⟩, fun _ => by omega⟩, rfl⟩
      · have tx : decide (nth zs k < 0) = false := by simpa using hx
        have HX : Hid (0 ≤ nth zs k) := by show _ ≤ _; omega
        have c2 := hc1 (nth zs k) wr
        rw [tx] at c2
        clear hx tx
        generalize hy : nth zs k = x at *
        have HY : Hid (nth zs k = x) := hy
        clear hy
        go_wp2_with (go_at_call 227; (with_reducible refine c2.mono ?_); rintro e w1 ⟨rfl, hw⟩; rw [hw]; clear hw w1)
        go_roundw
        case rel => exact ⟨k + 1, by omega, by go_num, fun j hj => by rcases Nat.lt_succ_iff_lt_or_eq.1 hj with h | h; (· exact HZ.out j h); rw [h, HY.out]; exact HX.out, (by first | trivial | rfl)⟩
        case measure => simp [intOf]; omega
    · obtain rfl : k = n := by omega
      have t1 : decide ((k : Int) < (k : Int)) = false := by simp
      go_wp2
      go_ret
      exact ⟨-1, rfl, ⟨fun h => by omega, fun ⟨j, h1, h2⟩ => by have := HZ.out j h1; omega⟩, rfl⟩
theorem containsNeg_any (ao : Option Addr) (n cap : Nat) (zs : List Int) (B : Bool) (hB : B = true ↔ ∃ k, k < n ∧ nth zs k < 0) (w : World) (h : Rd w ao n zs) (hn : n ≤ 4096) :
    Calls Tryz.prog 226 #[.slice ao n cap, .func (.func 227) #[] #[]] w fun e w' => e = .returned (.bool B) ∧ w' = w := by
  have hi := indexNeg_any ao n cap zs w h hn
  have HB : Hid (B = true ↔ ∃ k, k < n ∧ nth zs k < 0) := hB
  clear hB
  go_enter Tryz.func226, Tryz.ntmps226
  go_wp2_with (go_at_call 245; (with_reducible refine hi.mono ?_); rintro e w1 ⟨i, rfl, hI, hw⟩; rw [hw]; clear hw w1; have HI : Hid (0 ≤ i ↔ ∃ k, k < n ∧ nth zs k < 0) := hI; clear hI)
  go_ret
  refine ⟨?_, rfl⟩
  apply ret_bool
  have a := HI.out
  have b := HB.out
  by_cases e : ∃ k, k < n ∧ nth zs k < 0
  · rw [b.2 e]; simpa using a.2 e
  · have : B = false := by
      cases B
      · rfl
      · exact absurd (b.1 rfl) e
    rw [this]
    simp only [decide_eq_false_iff_not]
    exact fun h => e (a.1 h)

/-- All numbers together. -/
def sm (zs : List Int) : Int := zs.foldl (fun p z => p + z) 0
theorem sm_snoc (l : List Int) (z : Int) : sm (l ++ [z]) = sm l + z := by simp [sm, List.foldl_append]
theorem sm_up {zs : List Int} (h : ∀ k, k < zs.length → 0 ≤ nth zs k) : ∀ m, m ≤ zs.length → ∀ i, i ≤ m → 0 ≤ sm (zs.take i) ∧ sm (zs.take i) ≤ sm (zs.take m)
  | 0, _, i, hi => by obtain rfl : i = 0 := by omega
                      simp [sm]
  | m + 1, hm, i, hi => by
    by_cases e : i = m + 1
    · subst e
      refine ⟨?_, Int.le_refl _⟩
      rw [take_nth (by omega), sm_snoc]
      have := (sm_up h m (by omega) m (Nat.le_refl _)).1
      have := h m (by omega)
      omega
    · obtain ⟨a, b⟩ := sm_up h m (by omega) i (by omega)
      rw [take_nth (k := m) (by omega), sm_snoc]
      have := h m (by omega)
      omega
set_option maxHeartbeats 1000000 in
theorem inAll_neg (ao : Option Addr) (n cap r : Nat) (zs : List Int) (w : World) (h : Rd w ao n zs) (hn : n ≤ 4096) (hg : ∃ k, k < n ∧ nth zs k < 0) :
    Calls Tryz.prog 193 #[.slice ao n cap, .int .i64 (r : Nat)] w fun e w' => e = .returned (.tuple #[.int .i64 0, .int .i64 10]) ∧ w' = w := by
  have hc := containsNeg_any ao n cap zs true ⟨fun _ => hg, fun _ => rfl⟩ w h hn
  clear hg
  go_enter Tryz.func193, Tryz.ntmps193
  go_wp2
  go_step3
  go_wp2_with (go_at_call 226; (refine hc.mono ?_); rintro e w1 ⟨rfl, hw⟩; rw [hw]; clear hw w1)
  try rw [Exit.noGoto_ret]
  go_ret2
  exact ⟨rfl, rfl⟩
/-- What inAll tells of numbers of which none is below 0. -/
def iaE (T : Int) : Int := if 4096 < T then 17 else 0
def iaN (T : Int) : Int := if 4096 < T then 0 else T
set_option maxHeartbeats 4000000 in
set_option maxRecDepth 20000 in
theorem inAll_any (ao : Option Addr) (n cap r : Nat) (zs : List Int) (w : World) (h : Rd w ao n zs) (hn : n ≤ 4096) (hr : r ≤ 4096) (hg : ∀ k, k < n → 0 ≤ nth zs k) :
    Calls Tryz.prog 193 #[.slice ao n cap, .int .i64 (r : Nat)] w fun e w' => e = .returned (.tuple #[.int .i64 (iaN ((r : Int) * sm zs)), .int .i64 (iaE ((r : Int) * sm zs))]) ∧ w' = w := by
  have hc := containsNeg_any ao n cap zs false ⟨fun e => (by cases e), fun ⟨k, h1, h2⟩ => (by have := hg k h1; omega)⟩ w h hn
  have HL : Hid (zs.length = n) := h.len
  have HG : Hid (∀ k, k < n → 0 ≤ nth zs k) := hg
  have hup : Hid (∀ k, k ≤ n → 0 ≤ sm (zs.take k) ∧ sm (zs.take k) ≤ sm zs) := fun k hk => by
    have := sm_up (zs := zs) (fun j hj => hg j (by rw [← HL.out]; exact hj)) n (by rw [HL.out]; exact Nat.le_refl _) k hk
    rwa [List.take_of_length_le (l := zs) (i := n) (by rw [HL.out]; exact Nat.le_refl _)] at this
  have HS : Hid (∀ k, k < n → sm (zs.take (k + 1)) = sm (zs.take k) + nth zs k) := fun k hk => by rw [take_nth (by rw [HL.out]; exact hk), sm_snoc]
  have HT : Hid (sm (zs.take n) = sm zs) := by show _ = _; rw [List.take_of_length_le (by rw [HL.out]; exact Nat.le_refl _)]
  have hS0 : 0 ≤ sm zs := by have := (hup.out n (Nat.le_refl _)).1; rwa [HT.out] at this
  have hsm0 : sm (zs.take 0) = 0 := rfl
  obtain ⟨S, hS⟩ : ∃ S, S = sm zs := ⟨_, rfl⟩
  rw [← hS] at hup HT hS0 ⊢
  obtain ⟨f, hf⟩ : ∃ f : Nat → Int, f = fun k => sm (zs.take k) := ⟨_, rfl⟩
  have hup' : Hid (∀ k, k ≤ n → 0 ≤ f k ∧ f k ≤ S) := by rw [hf]; exact hup
  have HS' : Hid (∀ k, k < n → f (k + 1) = f k + nth zs k) := by rw [hf]; exact HS
  have HT' : Hid (f n = S) := by rw [hf]; exact HT
  have H0 : Hid (f 0 = 0) := by rw [hf]; exact hsm0
  have HM : Hid (∀ i : Nat, i < r → ((i + 1 : Nat) : Int) * S = (i : Int) * S + S ∧ (i : Int) * S + S ≤ (r : Int) * S ∧ 0 ≤ (i : Int) * S) := fun i hi => by
    have e : ((i + 1 : Nat) : Int) * S = (i : Int) * S + S := by rw [Int.natCast_add, Int.add_mul]; omega
    refine ⟨e, ?_, Int.mul_nonneg (by omega) hS0⟩
    rw [← e]
    exact Int.mul_le_mul_of_nonneg_right (by omega) hS0
  clear hf hS hsm0 HS hup HT
  have HS0 : Hid (0 ≤ S) := hS0
  clear hS0 hg
  generalize hRS : (r : Int) * S = RS at *
  have HRS : Hid ((r : Int) * S = RS) := hRS
  clear hRS
  go_enter Tryz.func193, Tryz.ntmps193
  go_wp2
  go_step3
  go_wp2_with (go_at_call 226; (refine hc.mono ?_); rintro e w1 ⟨rfl, hw⟩; rw [hw]; clear hw w1)
  clear hc
  go_step3
  go_wp2
  go_loopw [6, 7, 13] (fun t z i V => ∃ (k : Nat) (T : Int), k ≤ r ∧ z = .int .i64 0 ∧ i = .int .i64 (k : Nat) ∧ t = .int .i64 T ∧ T = (k : Int) * S ∧ 0 ≤ T ∧ T ≤ 4096 ∧ V = w) (fun _ _ i _ => r - (intOf i).toNat)
  case atStart => exact ⟨0, 0, Nat.zero_le _, rfl, rfl, rfl, by simp, by omega, by omega, rfl⟩
  case round =>
    obtain ⟨k, T, hk, rfl, rfl, rfl, hT, hT0, hT4, rfl⟩ := hrel
    have HTk : Hid (T = (k : Int) * S) := hT
    clear hT
    by_cases hlt : k < r
    · have t1 : decide ((k : Int) < (r : Int)) = true := by simp; omega
      have HMk : Hid (_) := HM.out k hlt
      go_wp2
      go_loopw [6, 7, 17] (fun t z i V => ∃ (j : Nat) (U : Int), j ≤ n ∧ z = .int .i64 0 ∧ i = .int .i64 (j : Nat) ∧ t = .int .i64 U ∧ U = T + f j ∧ 0 ≤ U ∧ U ≤ 4096 ∧ V = wr) (fun _ _ i _ => n - (intOf i).toNat)
      case atStart => exact ⟨0, T, Nat.zero_le _, rfl, rfl, rfl, by rw [H0.out, Int.add_zero], hT0, hT4, rfl⟩
      case round =>
        obtain ⟨j, U, hj, rfl, rfl, rfl, hU, hU0, hU4, rfl⟩ := hrel
        have HU : Hid (U = T + f j) := hU
        clear hU
        by_cases hlt2 : j < n
        · have t2 : decide ((j : Int) < (n : Int)) = true := by simp; omega
          have bj : (j : Int) < (n : Int) := by omega
          obtain ⟨b, off, rfl, hb, hcs⟩ := h.cells (by omega)
          have c1 := hcs j hlt2
          have hx0 := HG.out j hlt2
          have w1 : IntKind.i64.wrap (4096 - U) = 4096 - U := wrZ (by omega) (by omega)
          have HSj : Hid (_) := HS'.out j hlt2
          clear hcs
          have hnum := h.num j hlt2
          generalize nth zs j = x at *
          by_cases hbig : 4096 - U < x
          · have t3 : decide (4096 - U < x) = true := by simpa using hbig
            have HBB : Hid (4096 - U < x) := hbig
            clear hbig
            go_wp2
            try rw [Exit.noGoto_ret]
            go_ret2
            have e4 : 4096 < RS := by
              have a1 := HSj.out
              have a2 := (hup'.out (j + 1) (by omega)).2
              have a3 := HMk.out.2.1
              have a4 := HBB.out
              have a5 := HU.out
              have a6 := HTk.out
              omega
            exact ⟨ret_two (by unfold iaN; rw [if_pos e4]) (by unfold iaE; rw [if_pos e4]), rfl⟩
          · have t3 : decide (4096 - U < x) = false := by simp; omega
            have w2 : IntKind.i64.wrap (U + x) = U + x := wrZ (by omega) (by omega)
            have HBB : Hid (¬ 4096 - U < x) := hbig
            clear hbig
            go_wp2
            go_roundw
            case rel => exact ⟨j + 1, U + x, by omega, rfl, by go_num, rfl, by have := HSj.out; have := HU.out; omega, by omega, by have := HBB.out; omega, (by first | trivial | rfl)⟩
            case measure => simp [intOf]; omega
        · obtain rfl : j = n := by omega
          have t2 : decide ((j : Int) < (j : Int)) = false := by simp
          go_wp2
          go_roundw
          case rel => exact ⟨k + 1, U, by omega, rfl, by go_num, rfl, by have a1 := HMk.out.1; have a2 := HU.out; have a3 := HT'.out; have a4 := HTk.out; rw [a1]; omega, hU0, hU4, (by first | trivial | rfl)⟩
          case measure => simp [intOf]; omega
    · obtain rfl : k = r := by omega
      have t1 : decide ((k : Int) < (k : Int)) = false := by simp
      go_wp2
      try rw [Exit.noGoto_ret]
      go_returns
      have e4 : T = RS := by rw [HTk.out, HRS.out]
      have e5 : ¬ 4096 < RS := by omega
      exact ⟨ret_two (by unfold iaN; rw [if_neg e5]; exact e4) (by unfold iaE; rw [if_neg e5]), rfl⟩
end Go.Proofs.YtelcagfaflpolaaGreat


namespace Go.Proofs.YtelcagfaflpolaaGreat

open Go.RowKit

set_option linter.unusedVariables false

/-- An array's atoms; those of a scalar n times over. -/
def takL (sh at' : List Int) (n : Nat) : List Int := if sh.length = 0 then repL at' n else at'
set_option maxHeartbeats 1000000 in
theorem taken_any (so ao : Option Addr) (sn sc an ac n : Nat) (sh at' : List Int) (w : World) (h : Rd w so sn sh) (g : Rd w ao an at') (gs : Sl ao an ac) (hn : n ≤ 4096) (h1 : sn = 0 → an = 1) :
    Calls Tryz.prog 195 #[.agg #[.slice so sn sc, .slice ao an ac], .int .i64 (n : Nat)] w fun e w' => ∃ to' tn tc, e = .returned (.slice to' tn tc) ∧ Rd w' to' tn (takL sh at' n) ∧ Sl to' tn tc ∧ Below w.heap.size w w' := by
  have k0 := box_below w (.cells #[.slice so sn sc, .slice ao an ac] 36)
  obtain ⟨x0, x1, _, _⟩ := box2 (allocNew w (.cells #[.slice so sn sc, .slice ao an ac] 36))
  have g0 := g.below k0 (Nat.le_refl _)
  have HL := h.len
  by_cases hs : sn = 0
  · obtain rfl : an = 1 := h1 hs
    subst hs
    have HT : Hid (takL sh at' n = repL at' n) := by show _ = _; unfold takL; rw [if_pos (by omega)]
    have cR := repeatL_any ao 1 ac n n at' _ g0 (by omega) hn (by omega) hn
    clear HL h1
    go_enter Tryz.func195, Tryz.ntmps195
    go_wp2_with (go_at_call 47; (with_reducible refine cR.mono ?_); rintro e w1 ⟨o1, c1, rfl, f1, b1⟩)
    go_ret
    exact ⟨o1, n, c1, rfl, by rw [HT.out]; exact f1.rd, f1.sl, k0.trans (b1.mono k0.size)⟩
  · have HT : Hid (takL sh at' n = at') := by show _ = _; unfold takL; rw [if_neg (by omega)]
    have t1 : decide (0 < sn) = true := by simp; omega
    have t2 : (0 : Int) < (sn : Int) := by omega
    have t3 : 0 < sn := by omega
    clear HL h1 hs
    go_enter Tryz.func195, Tryz.ntmps195
    go_wp2
    go_ret
    exact ⟨ao, an, ac, rfl, by rw [HT.out]; exact g0, gs, k0⟩

/-- The k-th of some items of wd atoms each. -/
def itA (xs : List Int) (wd k : Nat) : List Int := (xs.drop (k * wd)).take wd
/-- The first k items, each as often as its number says. -/
def rpd (xs : List Int) (wd : Nat) (ns : List Int) (k : Nat) : List Int := (List.range k).flatMap (fun i => repL (itA xs wd i) (nth ns i).toNat)
theorem rpd_succ (xs : List Int) (wd : Nat) (ns : List Int) (k : Nat) : rpd xs wd ns (k + 1) = rpd xs wd ns k ++ repL (itA xs wd k) (nth ns k).toNat := by
  unfold rpd; rw [List.range_succ, List.flatMap_append]; simp
theorem itA_len {xs : List Int} {wd k n : Nat} (h : n * wd = xs.length) (hk : k < n) : (itA xs wd k).length = wd := by
  have := Nat.mul_le_mul_right wd (show k + 1 ≤ n by omega)
  rw [Nat.succ_mul] at this
  unfold itA
  rw [List.length_take, List.length_drop]
  omega
theorem rpd_len {xs : List Int} {wd n : Nat} {ns : List Int} (h : n * wd = xs.length) (hn : ns.length = n) (h0 : ∀ k, k < n → 0 ≤ nth ns k) : ∀ k, k ≤ n → ((rpd xs wd ns k).length : Int) = (wd : Int) * sm (ns.take k)
  | 0, _ => by simp [rpd, sm]
  | k + 1, hk => by
    rw [rpd_succ, List.length_append, repL_len, itA_len h (by omega), take_nth (by omega), sm_snoc, Int.mul_add, Int.natCast_add, rpd_len h hn h0 k (by omega), Int.natCast_mul, Int.toNat_of_nonneg (h0 k (by omega))]

set_option maxHeartbeats 4000000 in
set_option maxRecDepth 20000 in
theorem repeated_any (ao bo : Option Addr) (m ac n bc wd : Nat) (xs ns : List Int) (w : World) (h : Rd w ao m xs) (hs : Sl ao m ac) (g : Rd w bo n ns) (hm : n * wd = m) (hm4 : m ≤ 4096) (hn4 : n ≤ 4096) (h0 : ∀ k, k < n → 0 ≤ nth ns k ∧ nth ns k ≤ 4096) (hT : (wd : Int) * sm ns ≤ 4096) :
    Calls Tryz.prog 194 #[.slice ao m ac, .slice bo n bc] w fun e w' => ∃ oo on oc, e = .returned (.slice oo on oc) ∧ Ft 2 w' w.heap.size oo on oc (rpd xs wd ns n) ∧ Below w.heap.size w w' := by
  have HX := h.len
  have HNL := g.len
  have hup := sm_up (zs := ns) (fun k hk => (h0 k (by omega)).1) n (by omega)
  have hst : sm (ns.take n) = sm ns := by rw [List.take_of_length_le (by omega)]
  have HLEN : Hid (∀ k, k ≤ n → (rpd xs wd ns k).length ≤ 4096) := fun k hk => by
    have e := rpd_len (by rw [hm, HX]) HNL (fun k hk => (h0 k hk).1) k hk
    have u := (hup k hk).2
    rw [hst] at u
    have := Int.mul_le_mul_of_nonneg_left u (show 0 ≤ (wd : Int) by omega)
    omega
  have HREP : Hid (∀ k, k < n → (itA xs wd k).length = wd ∧ wd * (nth ns k).toNat ≤ 4096 ∧ rpd xs wd ns (k + 1) = rpd xs wd ns k ++ repL (itA xs wd k) (nth ns k).toNat) := fun k hk => by
    have l1 := itA_len (xs := xs) (wd := wd) (k := k) (by rw [hm, HX]) hk
    have l2 := rpd_succ xs wd ns k
    have l3 := HLEN.out (k + 1) (by omega)
    rw [l2, List.length_append, repL_len, l1] at l3
    exact ⟨l1, by omega, l2⟩
  have HM : Hid (n * wd = m) := hm
  have H0 : Hid (∀ k, k < n → 0 ≤ nth ns k ∧ nth ns k ≤ 4096) := h0
  have sle := hs.le
  have smx := hs.max
  clear hm h0 hT hup hst HX HNL
  go_enter Tryz.func194, Tryz.ntmps194
  go_wp2
  go_loopw [5, 11] (fun s i V => ∃ (k : Nat) (oo : Option Addr) (on oc : Nat), k ≤ n ∧ i = .int .i64 (k : Nat) ∧ s = .slice oo on oc ∧ Ft 2 V w.heap.size oo on oc (rpd xs wd ns k) ∧ Below w.heap.size w V) (fun _ i _ => n - (intOf i).toNat)
  case atStart => exact ⟨0, none, 0, 0, Nat.zero_le _, rfl, rfl, Ft.nil _ _ _, Below.refl _ _⟩
  case round =>
    obtain ⟨k, oo, on, oc, hk, rfl, rfl, F, B⟩ := hrel
    by_cases hlt : k < n
    · have t1 : decide ((k : Int) < (n : Int)) = true := by simp; omega
      have bk : (k : Int) < (n : Int) := by omega
      have hV := h.below B (Nat.le_refl _)
      obtain ⟨b, off, rfl, hb, hc⟩ := (g.below B (Nat.le_refl _)).cells (by omega)
      have c1 := hc k hlt
      have hx := H0.out k hlt
      obtain ⟨q, hq⟩ : ∃ q : Nat, nth ns k = q := ⟨(nth ns k).toNat, by omega⟩
      obtain ⟨l1, l2, l3⟩ := HREP.out k hlt
      have l4 := HLEN.out k hk
      rw [F.rd.len] at l4
      rw [hq, Int.toNat_natCast] at l2 l3
      rw [hq] at c1 hx
      obtain ⟨lo, hlo⟩ : ∃ lo : Nat, lo = k * wd := ⟨_, rfl⟩
      obtain ⟨hi, hhi⟩ : ∃ hi : Nat, hi = (k + 1) * wd := ⟨_, rfl⟩
      have hle : hi ≤ m := by rw [hhi, ← HM.out]; exact Nat.mul_le_mul_right _ (by omega)
      have hlh : lo + wd = hi := by rw [hlo, hhi, Nat.succ_mul]
      have m1 : (k : Int) * (wd : Int) = (lo : Int) := by rw [hlo]; simp
      have m2 : ((k : Int) + 1) * (wd : Int) = (hi : Int) := by rw [hhi]; simp
      have md : IntKind.i64.wrap ((m : Int) / (n : Int)) = (wd : Int) := by
        have e : (m : Int) / (n : Int) = (wd : Int) := by rw [← HM.out, Int.natCast_mul]; exact Int.mul_ediv_cancel_left _ (by omega)
        rw [e]; exact wrapIn _ (by omega)
      have nz : ¬ (n : Int) = 0 := by omega
      have nz2 : ¬ n = 0 := by omega
      have w1' := wrZ (z := (lo : Int)) (by omega) (by omega)
      have w2' := wrZ (z := (hi : Int)) (by omega) (by omega)
      have w3' := wrZ (z := (k : Int) + 1) (by omega) (by omega)
      have b1 : (lo : Int) ≤ (hi : Int) := by omega
      have b2 : (hi : Int) ≤ (ac : Int) := by omega
      obtain ⟨p2, hp2⟩ : ∃ p2, (if ac = lo then ao else Option.map (fun x => x.add lo) ao) = p2 := ⟨_, rfl⟩
      obtain ⟨y1, y2⟩ := hV.sub hs hp2 (show lo ≤ hi by omega) hle
      obtain ⟨d, hd⟩ : ∃ d, d = hi - lo := ⟨_, rfl⟩
      rw [show (xs.drop lo).take (hi - lo) = itA xs wd k by unfold itA; rw [← hlo, show hi - lo = wd by omega]] at y1
      have cR := repeatL_any p2 (hi - lo) (ac - lo) q (wd * q) (itA xs wd k) wr y1 (by rw [show hi - lo = wd by omega]) l2 (by omega) (by omega)
      have HS : Hid (rpd xs wd ns (k + 1) = rpd xs wd ns k ++ repL (itA xs wd k) q) := l3
      have sB := B.size
      clear l3 hlo hhi hlh hc hq l1 hd
      generalize wd * q = N at *
      go_wp2_with (first
        | (go_at_call 47; (with_reducible refine cR.mono ?_); rintro e w2 ⟨o2, c2, rfl, f2, b2⟩; have s2 := b2.size)
        | (at_builtin; refine wpList_joinT tyL rfl _ _ rfl w.heap.size oo o2 on oc N c2 _ (repL (itA xs wd k) q) rfl rfl (F.below b2 (Nat.le_refl _)) f2.rd f2.sl (by omega) (by omega) ?_; intro co3 c3 w3 f3 b3))
      go_roundw
      case rel => exact ⟨k + 1, co3, on + N, c3, by omega, by go_num, rfl, by rw [HS.out]; exact f3, (B.trans (b2.mono sB)).trans b3⟩
      case measure => simp [intOf]; omega
    · obtain rfl : k = n := by omega
      have t1 : decide ((k : Int) < (k : Int)) = false := by simp
      go_wp2
      go_ret
      exact ⟨oo, on, oc, rfl, F, B⟩
end Go.Proofs.YtelcagfaflpolaaGreat




namespace Go.Proofs.YtelcagfaflpolaaGreat

open Go.RowKit

set_option linter.unusedVariables false

/-- How many atoms an item has. -/
def wdA (sy : List Int) : Nat := (pr (sy.drop 1)).toNat
/-- How often a number is gone through. -/
def cpR (sx sy : List Int) : Int := if sx.length = 0 then tal sy else 1
theorem drop_may {sy : List Int} (h : mayF sy = 0) : mayF (sy.drop 1) = 0 := by
  cases sy with
  | nil => rfl
  | cons z l =>
    obtain ⟨h1, h2, h3⟩ := mayF_zero h
    have hz : 0 ≤ z := h1 0 (by simp)
    have hl : ∀ k, k < l.length → 0 ≤ nth l k := fun k hk => by have := h1 (k + 1) (by simp; omega); simpa [nth] using this
    have hp := pz_pos (l := l) l.length (Nat.le_refl _) hl
    rw [List.take_length] at hp
    refine mayF_ok hl (by simp at h2; simp; omega) ?_
    have e : ∀ (q : List Int) (a b : Int), q.foldl (fun p z => if z = 0 then p else p * z) (a * b) = a * q.foldl (fun p z => if z = 0 then p else p * z) b := by
      intro q
      induction q with
      | nil => intro a b; rfl
      | cons y q ih =>
        intro a b
        rw [List.foldl_cons, List.foldl_cons]
        split
        · exact ih a b
        · rw [Int.mul_assoc]; exact ih a (b * y)
    have e2 : pz (z :: l) = if z = 0 then pz l else z * pz l := by
      unfold pz
      rw [List.foldl_cons]
      split
      · rfl
      · have := e l z 1
        rw [Int.mul_one] at this
        rw [Int.one_mul]; exact this
    show pz l ≤ 4096
    rw [e2] at h3
    split at h3
    · exact h3
    · have : 1 * pz l ≤ z * pz l := Int.mul_le_mul_of_nonneg_right (by omega) (by omega)
      omega
theorem wdA_eq {sy : List Int} (h : mayF sy = 0) : ((wdA sy : Nat) : Int) = pr (sy.drop 1) ∧ 0 ≤ pr (sy.drop 1) ∧ pr (sy.drop 1) ≤ 4096 := by
  have := pr_le (drop_may h)
  unfold wdA
  omega
theorem mayA_0 {sh at' : List Int} (h : mayA sh at' = 0) : mayF sh = 0 ∧ (at'.length : Int) = pr sh := by
  unfold mayA at h
  split at h
  · rename_i e; exact absurd h e
  · rename_i e
    split at h
    · cases h
    · rename_i e2; exact ⟨by simpa using e, by simpa using e2⟩
theorem tal_pr {sy : List Int} (h : sy.length ≠ 0) : pr sy = tal sy * pr (sy.drop 1) := by
  cases sy with
  | nil => simp at h
  | cons z l => rw [pr_cons]; rfl
theorem itm_ok {sy ay : List Int} (h : mayA sy ay = 0) : itm sy ay = tal sy := if_pos h
theorem sm_rep (x : Int) : ∀ c : Nat, sm (List.replicate c x) = (c : Int) * x
  | 0 => by simp [sm]
  | c + 1 => by rw [List.replicate_succ', sm_snoc, sm_rep x c, Int.natCast_add, Int.add_mul]; omega
/-- What copying is made of: the atoms, the numbers, and how many. -/
structure Cp (sx ax sy ay : List Int) (tl : Nat) : Prop where
  tal : tal sy = (tl : Int)
  tl4 : tl ≤ 4096
  ax4 : ax.length ≤ 4096
  ay4 : ay.length ≤ 4096
  cut : (takL sx ax tl).length * wdA sy = (takL sy ay ax.length).length
  lm : (takL sy ay ax.length).length ≤ 4096
  ln : (takL sx ax tl).length ≤ 4096
  sum : sm (takL sx ax tl) = cpR sx sy * sm ax
  r4 : 0 ≤ cpR sx sy ∧ cpR sx sy ≤ 4096
  xs : sx.length = 0 → ax.length = 1
  ys : sy.length = 0 → ay.length = 1
theorem one_len {sx ax : List Int} (h : mayA sx ax = 0) (h0 : sx.length = 0) : ax.length = 1 := by
  have := (mayA_0 h).2
  rw [List.eq_nil_of_length_eq_zero h0] at this
  simp [pr] at this
  omega
theorem takL_len (sh at' : List Int) (n : Nat) : (takL sh at' n).length = if sh.length = 0 then at'.length * n else at'.length := by
  unfold takL; split
  · exact repL_len _ _
  · rfl
theorem atoms_le {sx ax : List Int} (h : mayA sx ax = 0) : ax.length ≤ 4096 := by
  have := (mayA_0 h).2
  have := (pr_le (mayA_0 h).1).2
  omega
theorem cp_of {sx ax sy ay : List Int} (hx : mayA sx ax = 0) (hy : mayA sy ay = 0) (hl : sx.length = 0 ∨ sy.length = 0 ∨ (ax.length : Int) = Go.Proofs.YtelcagfaflpolaaGreat.tal sy) : Cp sx ax sy ay (Go.Proofs.YtelcagfaflpolaaGreat.tal sy).toNat := by
  obtain ⟨fy, ly⟩ := mayA_0 hy
  have tb := tal_bd fy
  have x4 := atoms_le hx
  have y4 := atoms_le hy
  have wb := wdA_eq fy
  have e1 : ((Go.Proofs.YtelcagfaflpolaaGreat.tal sy).toNat : Int) = Go.Proofs.YtelcagfaflpolaaGreat.tal sy := Int.toNat_of_nonneg tb.1
  generalize htl : (Go.Proofs.YtelcagfaflpolaaGreat.tal sy).toNat = tl at *
  have hcut : (takL sx ax tl).length * wdA sy = (takL sy ay ax.length).length ∧ (takL sx ax tl).length ≤ 4096 ∧ (takL sy ay ax.length).length ≤ 4096 := by
    rw [takL_len, takL_len]
    by_cases h1 : sy.length = 0
    · have ey := one_len hy h1
      have esy := List.eq_nil_of_length_eq_zero h1
      have ew : wdA sy = 1 := by rw [esy]; rfl
      have et : tl = 1 := by rw [esy] at e1; have : Go.Proofs.YtelcagfaflpolaaGreat.tal [] = 1 := rfl; omega
      rw [if_pos h1, ey, ew, et, Nat.mul_one, Nat.one_mul, Nat.mul_one]
      by_cases h2 : sx.length = 0
      · rw [if_pos h2]; omega
      · rw [if_neg h2]; omega
    · rw [if_neg h1]
      have ep := tal_pr h1
      rw [← ly, ← e1, ← wb.1] at ep
      have ep' : tl * wdA sy = ay.length := by have := ep.symm; rw [← Int.natCast_mul] at this; exact Int.ofNat_inj.1 this
      by_cases h2 : sx.length = 0
      · rw [if_pos h2, one_len hx h2, Nat.one_mul]; omega
      · rw [if_neg h2]
        have : ax.length = tl := by rcases hl with h | h | h <;> omega
        rw [this]; omega
  refine ⟨e1.symm, by omega, x4, y4, hcut.1, hcut.2.2, hcut.2.1, ?_, ?_, one_len hx, one_len hy⟩
  · unfold takL cpR
    by_cases h2 : sx.length = 0
    · rw [if_pos h2, if_pos h2]
      obtain ⟨a, ha⟩ := List.length_eq_one_iff.1 (one_len hx h2)
      rw [ha, repL_one, sm_rep, e1]
      simp [sm]
    · rw [if_neg h2, if_neg h2, Int.one_mul]
  · unfold cpR; split <;> omega
theorem numbers_bd {ns : List Int} (h : ∀ k, k < ns.length → 0 ≤ nth ns k) (hs : sm ns ≤ 4096) : ∀ k, k < ns.length → 0 ≤ nth ns k ∧ nth ns k ≤ 4096 := fun k hk => by
  have a := sm_up h ns.length (Nat.le_refl _) (k + 1) (by omega)
  have b := (sm_up h ns.length (Nat.le_refl _) k (by omega)).1
  rw [take_nth hk, sm_snoc, List.take_length] at a
  have := h k hk
  omega
theorem takL_pos {sx ax : List Int} {n : Nat} (h : ∀ k, k < ax.length → 0 ≤ nth ax k) : ∀ k, k < (takL sx ax n).length → 0 ≤ nth (takL sx ax n) k := by
  intro k hk
  rw [takL_len] at hk
  unfold takL
  split
  · rename_i e
    rw [if_pos e] at hk
    rw [repL_nth ax n k hk]
    exact h _ (Nat.mod_lt _ (by rcases Nat.eq_zero_or_pos ax.length with e | e; (· rw [e, Nat.zero_mul] at hk; omega); exact e))
  · rename_i e
    rw [if_neg e] at hk
    exact h k hk

theorem DuZ.drewN {w W : World} {so : Option Addr} {sn sc : Nat} {ao : Option Addr} {an ac : Nat} {uo : Option Addr} {un uc : Nat} {bo : Option Addr} {bn bc : Nat} (h : DuZ w W so sn sc ao an ac uo un uc bo bn bc) : ∀ n, DuZ w (W.drewN n) so sn sc ao an ac uo un uc bo bn bc
  | 0 => h
  | n + 1 => (h.drewN n).below (B := (W.drewN n).heap.size) (Below.refl _ _).drew (h.drewN n).sz
theorem split1 (uo : Option Addr) (un uc : Nat) (sy : List Int) (w : World) (h : Rd w uo un sy) (hs : Sl uo un uc) (hn : un ≤ 4096) :
    Calls Tryz.prog 33 #[.slice uo un uc, .int .i64 (-1)] w fun e w' => ∃ o1 n1 c1 o2 n2 c2, e = .returned (.tuple #[.slice o1 n1 c1, .slice o2 n2 c2]) ∧ Rd w' o2 n2 (sy.drop 1) ∧ Sl o2 n2 c2 ∧ n2 ≤ 4096 ∧ Below w.heap.size w w' := by
  refine (split_any uo un uc sy (-1) w h hs (by omega) (by omega)).mono ?_
  rintro e w' ⟨o1, c1, o2, c2, he, f1, f2, ap, b⟩
  have er : rankF un (-1) = un - 1 := by unfold rankF; rw [if_neg (by omega)]; omega
  rw [er] at he f2
  have ed : sy.drop (un - (un - 1)) = sy.drop 1 := by
    by_cases h0 : un = 0
    · have : sy = [] := List.eq_nil_of_length_eq_zero (by rw [h.len, h0])
      rw [this]; simp
    · rw [show un - (un - 1) = 1 by omega]
  rw [ed] at f2
  exact ⟨o1, _, c1, o2, _, c2, he, f2.rd, f2.sl, by omega, b⟩
theorem conc_T (V : World) (T : Nat) (o2 : Option Addr) (n2 c2 : Nat) (ys : List Int) (hT : T ≤ 4096) (h : Rd V o2 n2 ys) (hs : Sl o2 n2 c2) (hn : n2 ≤ 4096) :
    Calls Tryz.prog 41 #[.slice (some ⟨V.heap.size + 1, 0, none⟩) 2 2] ((V.alloc (.cells #[.int .i64 (T : Nat)] 3)).alloc (.cells #[.slice (some ⟨V.heap.size, 0, none⟩) 1 1, .slice o2 n2 c2] 33)) fun e w' => ∃ co c, e = .returned (.slice co (1 + n2) c) ∧ Ft 3 w' V.heap.size co (1 + n2) c ((T : Int) :: ys) ∧ Below V.heap.size V w' := by
  have L0 : Ft 3 (V.alloc (.cells #[.int .i64 (T : Nat)] 3)) V.heap.size (some ⟨V.heap.size, 0, none⟩) 1 1 [(T : Int)] := ft_new 3 V [(T : Int)] (by simp) (num1 (by omega) (by omega))
  have k1 := box_below V (.cells #[.int .i64 (T : Nat)] 3)
  have k2 := box_below (V.alloc (.cells #[.int .i64 (T : Nat)] 3)) (.cells #[.slice (some ⟨V.heap.size, 0, none⟩) 1 1, .slice o2 n2 c2] 33)
  have hv := allocNew (V.alloc (.cells #[.int .i64 (T : Nat)] 3)) (.cells #[.slice (some ⟨V.heap.size, 0, none⟩) 1 1, .slice o2 n2 c2] 33)
  simp only [World.size_alloc] at hv k2
  have h1 := (L0.below k2 (by simp))
  have kk := k1.trans (k2.mono (by omega))
  refine (concat_any (some ⟨V.heap.size, 0, none⟩) o2 1 1 n2 c2 (V.heap.size + 1) [(T : Int)] ys _ hv h1.rd h1.sl ((h.below k1 (Nat.le_refl _)).below k2 (by simp)) hs (by omega) (by omega)).mono ?_
  rintro e w' ⟨co, c, he, f, b⟩
  exact ⟨co, c, he, f.mono kk.size, kk.trans (b.mono kk.size)⟩
theorem ret0 {w : World} {e : Ending} {w' : World} {E : Int} (he : e = .returned (.tuple #[.agg #[.slice none 0 0, .slice none 0 0], .int .i64 E])) (b : Below w.heap.size w w') : AnsZ w (fun S A => S = [] ∧ A = []) E e w' :=
  ⟨none, 0, 0, none, 0, 0, [], [], he, Ft.nil _ _ _, Ft.nil _ _ _, ⟨rfl, rfl⟩, b⟩

set_option maxHeartbeats 4000000 in
set_option maxRecDepth 20000 in
theorem copies_len_c (so ao uo bo : Option Addr) (sn sc an ac un uc bn bc : Nat) (sx ax sy ay : List Int) (w : World) (hx : Rd w so sn sx) (gx : Rd w ao an ax) (gsx : Sl ao an ac) (hy : Rd w uo un sy) (hsy : Sl uo un uc) (gy : Rd w bo bn ay) (gsy : Sl bo bn bc) (tl : Nat) (htl : itm sy ay = (tl : Int)) (tl4 : tl ≤ 4096) (an4 : an ≤ 4096) (un4 : un ≤ 4096) (h1 : 0 < sn) (h2 : 0 < un) (hb : an ≠ tl) :
    Calls Tryz.prog 145 #[.agg #[.slice so sn sc, .slice ao an ac], .agg #[.slice uo un uc, .slice bo bn bc]] w fun e w' => AnsZ w (fun S A => S = [] ∧ A = []) 11 e w' := by
  have D0 := du_startZ w so sn sc ao an ac uo un uc bo bn bc
  have s0 := D0.sz
  have cIt := fun V (D : DuZ w V so sn sc ao an ac uo un uc bo bn bc) => items_any uo bo un uc bn bc sy ay V (hy.below D.bel (Nat.le_refl _)) (gy.below D.bel (Nat.le_refl _))
  rw [htl] at cIt
  obtain ⟨x0, x1, _, _⟩ := box2 D0.x
  obtain ⟨x2, x3, _, _⟩ := box2 D0.y
  have al : ∀ V, DuZ w V so sn sc ao an ac uo un uc bo bn bc → V.cell? ⟨w.heap.size, 0, none⟩ = some (.slice so sn sc) ∧ V.cell? ⟨w.heap.size, 1, none⟩ = some (.slice ao an ac) ∧ V.cell? ⟨w.heap.size + 1, 0, none⟩ = some (.slice uo un uc) ∧ V.cell? ⟨w.heap.size + 1, 1, none⟩ = some (.slice bo bn bc) := fun V D => ⟨(box2 D.x).1, (box2 D.x).2.1, (box2 D.y).1, (box2 D.y).2.1⟩
  have DD : ∀ V, DuZ w V so sn sc ao an ac uo un uc bo bn bc → DuZ w V.drew so sn sc ao an ac uo un uc bo bn bc := fun V D => D.below (B := V.heap.size) (Below.refl _ _).drew D.sz
  clear htl
  have t1 : ((sn : Int) == 0) = false := by simp; omega
  have t1b : (sn == 0) = false := by simp; omega
  have t1c : ¬ sn = 0 := by omega
  have t2 : decide (0 < un) = true := by simpa using h2
  have t3 : (0 : Int) < (un : Int) := by omega
  have t4 : ((an : Int) != (tl : Int)) = true := by simp; omega
  have t4b : (an != tl) = true := by simpa using hb
  clear hb
  go_enter Tryz.func145, Tryz.ntmps145
  go_wp2
  have DB := DD _ D0
  have sB := DB.sz
  go_region_held3 (fun V => V.cell? ⟨w.heap.size, 0, none⟩ = some (.slice so sn sc) ∧ V.cell? ⟨w.heap.size, 1, none⟩ = some (.slice ao an ac) ∧ V.cell? ⟨w.heap.size + 1, 0, none⟩ = some (.slice uo un uc) ∧ V.cell? ⟨w.heap.size + 1, 1, none⟩ = some (.slice bo bn bc)) (first | exact al _ DB | exact al _ D1 | exact al _ D0)
    (first
      | (go_at_call 182; (with_reducible refine (cIt _ DB).mono ?_); rintro e w1 ⟨rfl, k1⟩; have D1 := DB.below k1 sB; have s1 := D1.sz; obtain ⟨y0, y1, _, _⟩ := box2 D1.x; obtain ⟨y2, y3, _, _⟩ := box2 D1.y; obtain ⟨r0, r1, r2, r3⟩ := box2 D1.r))
  go_wp2
  (try simp only [Exit.inBlock, Exit.then])
  refine bodyPost_ret (v := .tuple #[.agg #[.slice none 0 0, .slice none 0 0], .int .i64 11]) (by rw [results_cell_tmp rfl]; go_simp) rfl ?_
  exact ret0 rfl (below_set2 _ _ _ _ D1.bel (by omega) (Nat.le_refl _))

set_option maxHeartbeats 4000000 in
set_option maxRecDepth 20000 in
theorem copies_err_a (so ao uo bo : Option Addr) (sn sc an ac un uc bn bc : Nat) (sx ax sy ay : List Int) (w : World) (hx : Rd w so sn sx) (gx : Rd w ao an ax) (gsx : Sl ao an ac) (hy : Rd w uo un sy) (hsy : Sl uo un uc) (gy : Rd w bo bn ay) (gsy : Sl bo bn bc) (tl : Nat) (htl : itm sy ay = (tl : Int)) (tl4 : tl ≤ 4096) (an4 : an ≤ 4096) (un4 : un ≤ 4096) (h1 : sn = 0) (N E : Int) (hE : E ≠ 0) (hI : ∀ V, Below w.heap.size w V → Calls Tryz.prog 193 #[.slice ao an ac, .int .i64 (tl : Nat)] V fun e w' => e = .returned (.tuple #[.int .i64 N, .int .i64 E]) ∧ w' = V) :
    Calls Tryz.prog 145 #[.agg #[.slice so sn sc, .slice ao an ac], .agg #[.slice uo un uc, .slice bo bn bc]] w fun e w' => AnsZ w (fun S A => S = [] ∧ A = []) E e w' := by
  have D0 := du_startZ w so sn sc ao an ac uo un uc bo bn bc
  have s0 := D0.sz
  have cIt := fun V (D : DuZ w V so sn sc ao an ac uo un uc bo bn bc) => items_any uo bo un uc bn bc sy ay V (hy.below D.bel (Nat.le_refl _)) (gy.below D.bel (Nat.le_refl _))
  rw [htl] at cIt
  obtain ⟨x0, x1, _, _⟩ := box2 D0.x
  obtain ⟨x2, x3, _, _⟩ := box2 D0.y
  have al : ∀ V, DuZ w V so sn sc ao an ac uo un uc bo bn bc → V.cell? ⟨w.heap.size, 0, none⟩ = some (.slice so sn sc) ∧ V.cell? ⟨w.heap.size, 1, none⟩ = some (.slice ao an ac) ∧ V.cell? ⟨w.heap.size + 1, 0, none⟩ = some (.slice uo un uc) ∧ V.cell? ⟨w.heap.size + 1, 1, none⟩ = some (.slice bo bn bc) := fun V D => ⟨(box2 D.x).1, (box2 D.x).2.1, (box2 D.y).1, (box2 D.y).2.1⟩
  have DD : ∀ V, DuZ w V so sn sc ao an ac uo un uc bo bn bc → DuZ w V.drew so sn sc ao an ac uo un uc bo bn bc := fun V D => D.below (B := V.heap.size) (Below.refl _ _).drew D.sz
  clear htl
  subst h1
  have t5 : (E != 0) = true := by simpa using hE
  clear hE
  go_enter Tryz.func145, Tryz.ntmps145
  go_wp2_with (first
    | (go_at_call 182; (with_reducible refine (cIt _ D0).mono ?_); rintro e w1 ⟨rfl, k1⟩; have D1 := D0.below k1 s0; have s1 := D1.sz; obtain ⟨y0, y1, _, _⟩ := box2 D1.x; obtain ⟨y2, y3, _, _⟩ := box2 D1.y)
    | (go_at_call 193; (with_reducible refine (hI _ (D1).bel).mono ?_); rintro e w2 ⟨rfl, hw2⟩; rw [hw2]; clear hw2 w2; obtain ⟨r0, r1, r2, r3⟩ := box2 (D1).r))
  (try simp only [Exit.inBlock, Exit.then])
  refine bodyPost_ret (v := .tuple #[.agg #[.slice none 0 0, .slice none 0 0], .int .i64 E]) (by rw [results_cell_tmp rfl]; go_simp) rfl ?_
  exact ret0 rfl (below_set2 _ _ _ _ D1.bel (by omega) (Nat.le_refl _))

set_option maxHeartbeats 4000000 in
set_option maxRecDepth 20000 in
theorem copies_err_b (so ao uo bo : Option Addr) (sn sc an ac un uc bn bc : Nat) (sx ax sy ay : List Int) (w : World) (hx : Rd w so sn sx) (gx : Rd w ao an ax) (gsx : Sl ao an ac) (hy : Rd w uo un sy) (hsy : Sl uo un uc) (gy : Rd w bo bn ay) (gsy : Sl bo bn bc) (tl : Nat) (htl : itm sy ay = (tl : Int)) (tl4 : tl ≤ 4096) (an4 : an ≤ 4096) (un4 : un ≤ 4096) (h1 : 0 < sn) (h2 : un = 0) (N E : Int) (hE : E ≠ 0) (hI : ∀ V, Below w.heap.size w V → Calls Tryz.prog 193 #[.slice ao an ac, .int .i64 1] V fun e w' => e = .returned (.tuple #[.int .i64 N, .int .i64 E]) ∧ w' = V) :
    Calls Tryz.prog 145 #[.agg #[.slice so sn sc, .slice ao an ac], .agg #[.slice uo un uc, .slice bo bn bc]] w fun e w' => AnsZ w (fun S A => S = [] ∧ A = []) E e w' := by
  have D0 := du_startZ w so sn sc ao an ac uo un uc bo bn bc
  have s0 := D0.sz
  have cIt := fun V (D : DuZ w V so sn sc ao an ac uo un uc bo bn bc) => items_any uo bo un uc bn bc sy ay V (hy.below D.bel (Nat.le_refl _)) (gy.below D.bel (Nat.le_refl _))
  rw [htl] at cIt
  obtain ⟨x0, x1, _, _⟩ := box2 D0.x
  obtain ⟨x2, x3, _, _⟩ := box2 D0.y
  have al : ∀ V, DuZ w V so sn sc ao an ac uo un uc bo bn bc → V.cell? ⟨w.heap.size, 0, none⟩ = some (.slice so sn sc) ∧ V.cell? ⟨w.heap.size, 1, none⟩ = some (.slice ao an ac) ∧ V.cell? ⟨w.heap.size + 1, 0, none⟩ = some (.slice uo un uc) ∧ V.cell? ⟨w.heap.size + 1, 1, none⟩ = some (.slice bo bn bc) := fun V D => ⟨(box2 D.x).1, (box2 D.x).2.1, (box2 D.y).1, (box2 D.y).2.1⟩
  have DD : ∀ V, DuZ w V so sn sc ao an ac uo un uc bo bn bc → DuZ w V.drew so sn sc ao an ac uo un uc bo bn bc := fun V D => D.below (B := V.heap.size) (Below.refl _ _).drew D.sz
  clear htl
  have t1 : ((sn : Int) == 0) = false := by simp; omega
  have t1b : (sn == 0) = false := by simp; omega
  have t1c : ¬ sn = 0 := by omega
  subst h2
  have t5 : (E != 0) = true := by simpa using hE
  clear hE
  go_enter Tryz.func145, Tryz.ntmps145
  go_wp2
  go_quiet (fail)
  have DB := D0.drewN nq
  have sB := DB.sz
  obtain ⟨y0, y1, _, _⟩ := box2 DB.x
  obtain ⟨y2, y3, _, _⟩ := box2 DB.y
  go_wp2_with (first
    | (go_at_call 193; (with_reducible refine (hI _ (DB).bel).mono ?_); rintro e w2 ⟨rfl, hw2⟩; rw [hw2]; clear hw2 w2; obtain ⟨r0, r1, r2, r3⟩ := box2 (DB).r))
  (try simp only [Exit.inBlock, Exit.then])
  refine bodyPost_ret (v := .tuple #[.agg #[.slice none 0 0, .slice none 0 0], .int .i64 E]) (by rw [results_cell_tmp rfl]; go_simp) rfl ?_
  exact ret0 rfl (below_set2 _ _ _ _ DB.bel (by omega) (Nat.le_refl _))

set_option maxHeartbeats 4000000 in
set_option maxRecDepth 20000 in
theorem copies_err_c (so ao uo bo : Option Addr) (sn sc an ac un uc bn bc : Nat) (sx ax sy ay : List Int) (w : World) (hx : Rd w so sn sx) (gx : Rd w ao an ax) (gsx : Sl ao an ac) (hy : Rd w uo un sy) (hsy : Sl uo un uc) (gy : Rd w bo bn ay) (gsy : Sl bo bn bc) (tl : Nat) (htl : itm sy ay = (tl : Int)) (tl4 : tl ≤ 4096) (an4 : an ≤ 4096) (un4 : un ≤ 4096) (h1 : 0 < sn) (h2 : 0 < un) (hb : an = tl) (N E : Int) (hE : E ≠ 0) (hI : ∀ V, Below w.heap.size w V → Calls Tryz.prog 193 #[.slice ao an ac, .int .i64 1] V fun e w' => e = .returned (.tuple #[.int .i64 N, .int .i64 E]) ∧ w' = V) :
    Calls Tryz.prog 145 #[.agg #[.slice so sn sc, .slice ao an ac], .agg #[.slice uo un uc, .slice bo bn bc]] w fun e w' => AnsZ w (fun S A => S = [] ∧ A = []) E e w' := by
  have D0 := du_startZ w so sn sc ao an ac uo un uc bo bn bc
  have s0 := D0.sz
  have cIt := fun V (D : DuZ w V so sn sc ao an ac uo un uc bo bn bc) => items_any uo bo un uc bn bc sy ay V (hy.below D.bel (Nat.le_refl _)) (gy.below D.bel (Nat.le_refl _))
  rw [htl] at cIt
  obtain ⟨x0, x1, _, _⟩ := box2 D0.x
  obtain ⟨x2, x3, _, _⟩ := box2 D0.y
  have al : ∀ V, DuZ w V so sn sc ao an ac uo un uc bo bn bc → V.cell? ⟨w.heap.size, 0, none⟩ = some (.slice so sn sc) ∧ V.cell? ⟨w.heap.size, 1, none⟩ = some (.slice ao an ac) ∧ V.cell? ⟨w.heap.size + 1, 0, none⟩ = some (.slice uo un uc) ∧ V.cell? ⟨w.heap.size + 1, 1, none⟩ = some (.slice bo bn bc) := fun V D => ⟨(box2 D.x).1, (box2 D.x).2.1, (box2 D.y).1, (box2 D.y).2.1⟩
  have DD : ∀ V, DuZ w V so sn sc ao an ac uo un uc bo bn bc → DuZ w V.drew so sn sc ao an ac uo un uc bo bn bc := fun V D => D.below (B := V.heap.size) (Below.refl _ _).drew D.sz
  clear htl
  have t1 : ((sn : Int) == 0) = false := by simp; omega
  have t1b : (sn == 0) = false := by simp; omega
  have t1c : ¬ sn = 0 := by omega
  have t2 : decide (0 < un) = true := by simpa using h2
  have t3 : (0 : Int) < (un : Int) := by omega
  have t4 : ((an : Int) != (tl : Int)) = false := by simp; omega
  have t4b : (an != tl) = false := by simpa using hb
  have HB : Hid (an = tl) := hb
  clear hb
  have t5 : (E != 0) = true := by simpa using hE
  clear hE
  go_enter Tryz.func145, Tryz.ntmps145
  go_wp2
  have DB := DD _ D0
  have sB := DB.sz
  go_region_held3 (fun V => V.cell? ⟨w.heap.size, 0, none⟩ = some (.slice so sn sc) ∧ V.cell? ⟨w.heap.size, 1, none⟩ = some (.slice ao an ac) ∧ V.cell? ⟨w.heap.size + 1, 0, none⟩ = some (.slice uo un uc) ∧ V.cell? ⟨w.heap.size + 1, 1, none⟩ = some (.slice bo bn bc)) (first | exact al _ DB | exact al _ D1 | exact al _ D0)
    (first
      | (go_at_call 182; (with_reducible refine (cIt _ DB).mono ?_); rintro e w1 ⟨rfl, k1⟩; have D1 := DB.below k1 sB; have s1 := D1.sz; obtain ⟨y0, y1, _, _⟩ := box2 D1.x; obtain ⟨y2, y3, _, _⟩ := box2 D1.y; obtain ⟨r0, r1, r2, r3⟩ := box2 D1.r))
  go_wp2_with (first
    | (go_at_call 193; (with_reducible refine (hI _ (D1).bel).mono ?_); rintro e w2 ⟨rfl, hw2⟩; rw [hw2]; clear hw2 w2; obtain ⟨r0, r1, r2, r3⟩ := box2 (D1).r))
  (try simp only [Exit.inBlock, Exit.then])
  refine bodyPost_ret (v := .tuple #[.agg #[.slice none 0 0, .slice none 0 0], .int .i64 E]) (by rw [results_cell_tmp rfl]; go_simp) rfl ?_
  exact ret0 rfl (below_set2 _ _ _ _ D1.bel (by omega) (Nat.le_refl _))

set_option maxHeartbeats 4000000 in
set_option maxRecDepth 20000 in
theorem copies_may_a (so ao uo bo : Option Addr) (sn sc an ac un uc bn bc : Nat) (sx ax sy ay : List Int) (w : World) (hx : Rd w so sn sx) (gx : Rd w ao an ax) (gsx : Sl ao an ac) (hy : Rd w uo un sy) (hsy : Sl uo un uc) (gy : Rd w bo bn ay) (gsy : Sl bo bn bc) (tl : Nat) (htl : itm sy ay = (tl : Int)) (tl4 : tl ≤ 4096) (an4 : an ≤ 4096) (un4 : un ≤ 4096) (h1 : sn = 0) (T : Nat) (T4 : T ≤ 4096) (hI : ∀ V, Below w.heap.size w V → Calls Tryz.prog 193 #[.slice ao an ac, .int .i64 (tl : Nat)] V fun e w' => e = .returned (.tuple #[.int .i64 (T : Nat), .int .i64 0]) ∧ w' = V) (F : Int) (hF : mayF ((T : Int) :: sy.drop 1) = F) (hF0 : F ≠ 0) :
    Calls Tryz.prog 145 #[.agg #[.slice so sn sc, .slice ao an ac], .agg #[.slice uo un uc, .slice bo bn bc]] w fun e w' => AnsZ w (fun S A => S = [] ∧ A = []) F e w' := by
  have D0 := du_startZ w so sn sc ao an ac uo un uc bo bn bc
  have s0 := D0.sz
  have cIt := fun V (D : DuZ w V so sn sc ao an ac uo un uc bo bn bc) => items_any uo bo un uc bn bc sy ay V (hy.below D.bel (Nat.le_refl _)) (gy.below D.bel (Nat.le_refl _))
  rw [htl] at cIt
  obtain ⟨x0, x1, _, _⟩ := box2 D0.x
  obtain ⟨x2, x3, _, _⟩ := box2 D0.y
  have al : ∀ V, DuZ w V so sn sc ao an ac uo un uc bo bn bc → V.cell? ⟨w.heap.size, 0, none⟩ = some (.slice so sn sc) ∧ V.cell? ⟨w.heap.size, 1, none⟩ = some (.slice ao an ac) ∧ V.cell? ⟨w.heap.size + 1, 0, none⟩ = some (.slice uo un uc) ∧ V.cell? ⟨w.heap.size + 1, 1, none⟩ = some (.slice bo bn bc) := fun V D => ⟨(box2 D.x).1, (box2 D.x).2.1, (box2 D.y).1, (box2 D.y).2.1⟩
  have DD : ∀ V, DuZ w V so sn sc ao an ac uo un uc bo bn bc → DuZ w V.drew so sn sc ao an ac uo un uc bo bn bc := fun V D => D.below (B := V.heap.size) (Below.refl _ _).drew D.sz
  clear htl
  subst h1
  have t6 : (F != 0) = true := by simpa using hF0
  clear hF0
  go_enter Tryz.func145, Tryz.ntmps145
  go_wp2_with (first
    | (go_at_call 182; (with_reducible refine (cIt _ D0).mono ?_); rintro e w1 ⟨rfl, k1⟩; have D1 := D0.below k1 s0; have s1 := D1.sz; obtain ⟨y0, y1, _, _⟩ := box2 D1.x; obtain ⟨y2, y3, _, _⟩ := box2 D1.y)
    | (go_at_call 193; (with_reducible refine (hI _ (D1).bel).mono ?_); rintro e w2 ⟨rfl, hw2⟩; rw [hw2]; clear hw2 w2)
    | (go_at_call 33; (with_reducible refine (split1 uo _ uc sy _ (hy.below (D1).bel (Nat.le_refl _)) hsy un4).mono ?_); rintro e w3 ⟨o1, n1, c1, o2, n2, c2, rfl, r3, l3, n24, k3⟩; have D3 := (D1).below k3 (D1).sz; have s3 := D3.sz)
    | (go_at_call 41; (with_reducible refine (conc_T w3 T o2 n2 c2 _ T4 r3 l3 n24).mono ?_); rintro e w4 ⟨o4, c4, rfl, f4, k4⟩; have D4 := D3.below k4 s3; have s4 := D4.sz; have cF := may_any _ _ c4 _ _ f4.rd; rw [hF] at cF)
    | (go_at_call 40; (with_reducible refine cF.mono ?_); rintro e w5 ⟨rfl, hw5⟩; rw [hw5]; clear hw5 w5; obtain ⟨r0, r1, r2, r3⟩ := box2 D4.r))
  (try simp only [Exit.inBlock, Exit.then])
  refine bodyPost_ret (v := .tuple #[.agg #[.slice none 0 0, .slice none 0 0], .int .i64 F]) (by rw [results_cell_tmp rfl]; go_simp) rfl ?_
  exact ret0 rfl (below_set2 _ _ _ _ D4.bel (by omega) (Nat.le_refl _))

set_option maxHeartbeats 4000000 in
set_option maxRecDepth 20000 in
theorem copies_may_b (so ao uo bo : Option Addr) (sn sc an ac un uc bn bc : Nat) (sx ax sy ay : List Int) (w : World) (hx : Rd w so sn sx) (gx : Rd w ao an ax) (gsx : Sl ao an ac) (hy : Rd w uo un sy) (hsy : Sl uo un uc) (gy : Rd w bo bn ay) (gsy : Sl bo bn bc) (tl : Nat) (htl : itm sy ay = (tl : Int)) (tl4 : tl ≤ 4096) (an4 : an ≤ 4096) (un4 : un ≤ 4096) (h1 : 0 < sn) (h2 : un = 0) (T : Nat) (T4 : T ≤ 4096) (hI : ∀ V, Below w.heap.size w V → Calls Tryz.prog 193 #[.slice ao an ac, .int .i64 1] V fun e w' => e = .returned (.tuple #[.int .i64 (T : Nat), .int .i64 0]) ∧ w' = V) (F : Int) (hF : mayF ((T : Int) :: sy.drop 1) = F) (hF0 : F ≠ 0) :
    Calls Tryz.prog 145 #[.agg #[.slice so sn sc, .slice ao an ac], .agg #[.slice uo un uc, .slice bo bn bc]] w fun e w' => AnsZ w (fun S A => S = [] ∧ A = []) F e w' := by
  have D0 := du_startZ w so sn sc ao an ac uo un uc bo bn bc
  have s0 := D0.sz
  have cIt := fun V (D : DuZ w V so sn sc ao an ac uo un uc bo bn bc) => items_any uo bo un uc bn bc sy ay V (hy.below D.bel (Nat.le_refl _)) (gy.below D.bel (Nat.le_refl _))
  rw [htl] at cIt
  obtain ⟨x0, x1, _, _⟩ := box2 D0.x
  obtain ⟨x2, x3, _, _⟩ := box2 D0.y
  have al : ∀ V, DuZ w V so sn sc ao an ac uo un uc bo bn bc → V.cell? ⟨w.heap.size, 0, none⟩ = some (.slice so sn sc) ∧ V.cell? ⟨w.heap.size, 1, none⟩ = some (.slice ao an ac) ∧ V.cell? ⟨w.heap.size + 1, 0, none⟩ = some (.slice uo un uc) ∧ V.cell? ⟨w.heap.size + 1, 1, none⟩ = some (.slice bo bn bc) := fun V D => ⟨(box2 D.x).1, (box2 D.x).2.1, (box2 D.y).1, (box2 D.y).2.1⟩
  have DD : ∀ V, DuZ w V so sn sc ao an ac uo un uc bo bn bc → DuZ w V.drew so sn sc ao an ac uo un uc bo bn bc := fun V D => D.below (B := V.heap.size) (Below.refl _ _).drew D.sz
  clear htl
  have t1 : ((sn : Int) == 0) = false := by simp; omega
  have t1b : (sn == 0) = false := by simp; omega
  have t1c : ¬ sn = 0 := by omega
  subst h2
  have t6 : (F != 0) = true := by simpa using hF0
  clear hF0
  go_enter Tryz.func145, Tryz.ntmps145
  go_wp2
  go_quiet (fail)
  have DB := D0.drewN nq
  have sB := DB.sz
  obtain ⟨y0, y1, _, _⟩ := box2 DB.x
  obtain ⟨y2, y3, _, _⟩ := box2 DB.y
  go_wp2_with (first
    | (go_at_call 193; (with_reducible refine (hI _ (DB).bel).mono ?_); rintro e w2 ⟨rfl, hw2⟩; rw [hw2]; clear hw2 w2)
    | (go_at_call 33; (with_reducible refine (split1 uo _ uc sy _ (hy.below (DB).bel (Nat.le_refl _)) hsy un4).mono ?_); rintro e w3 ⟨o1, n1, c1, o2, n2, c2, rfl, r3, l3, n24, k3⟩; have D3 := (DB).below k3 (DB).sz; have s3 := D3.sz)
    | (go_at_call 41; (with_reducible refine (conc_T w3 T o2 n2 c2 _ T4 r3 l3 n24).mono ?_); rintro e w4 ⟨o4, c4, rfl, f4, k4⟩; have D4 := D3.below k4 s3; have s4 := D4.sz; have cF := may_any _ _ c4 _ _ f4.rd; rw [hF] at cF)
    | (go_at_call 40; (with_reducible refine cF.mono ?_); rintro e w5 ⟨rfl, hw5⟩; rw [hw5]; clear hw5 w5; obtain ⟨r0, r1, r2, r3⟩ := box2 D4.r))
  (try simp only [Exit.inBlock, Exit.then])
  refine bodyPost_ret (v := .tuple #[.agg #[.slice none 0 0, .slice none 0 0], .int .i64 F]) (by rw [results_cell_tmp rfl]; go_simp) rfl ?_
  exact ret0 rfl (below_set2 _ _ _ _ D4.bel (by omega) (Nat.le_refl _))

set_option maxHeartbeats 4000000 in
set_option maxRecDepth 20000 in
theorem copies_may_c (so ao uo bo : Option Addr) (sn sc an ac un uc bn bc : Nat) (sx ax sy ay : List Int) (w : World) (hx : Rd w so sn sx) (gx : Rd w ao an ax) (gsx : Sl ao an ac) (hy : Rd w uo un sy) (hsy : Sl uo un uc) (gy : Rd w bo bn ay) (gsy : Sl bo bn bc) (tl : Nat) (htl : itm sy ay = (tl : Int)) (tl4 : tl ≤ 4096) (an4 : an ≤ 4096) (un4 : un ≤ 4096) (h1 : 0 < sn) (h2 : 0 < un) (hb : an = tl) (T : Nat) (T4 : T ≤ 4096) (hI : ∀ V, Below w.heap.size w V → Calls Tryz.prog 193 #[.slice ao an ac, .int .i64 1] V fun e w' => e = .returned (.tuple #[.int .i64 (T : Nat), .int .i64 0]) ∧ w' = V) (F : Int) (hF : mayF ((T : Int) :: sy.drop 1) = F) (hF0 : F ≠ 0) :
    Calls Tryz.prog 145 #[.agg #[.slice so sn sc, .slice ao an ac], .agg #[.slice uo un uc, .slice bo bn bc]] w fun e w' => AnsZ w (fun S A => S = [] ∧ A = []) F e w' := by
  have D0 := du_startZ w so sn sc ao an ac uo un uc bo bn bc
  have s0 := D0.sz
  have cIt := fun V (D : DuZ w V so sn sc ao an ac uo un uc bo bn bc) => items_any uo bo un uc bn bc sy ay V (hy.below D.bel (Nat.le_refl _)) (gy.below D.bel (Nat.le_refl _))
  rw [htl] at cIt
  obtain ⟨x0, x1, _, _⟩ := box2 D0.x
  obtain ⟨x2, x3, _, _⟩ := box2 D0.y
  have al : ∀ V, DuZ w V so sn sc ao an ac uo un uc bo bn bc → V.cell? ⟨w.heap.size, 0, none⟩ = some (.slice so sn sc) ∧ V.cell? ⟨w.heap.size, 1, none⟩ = some (.slice ao an ac) ∧ V.cell? ⟨w.heap.size + 1, 0, none⟩ = some (.slice uo un uc) ∧ V.cell? ⟨w.heap.size + 1, 1, none⟩ = some (.slice bo bn bc) := fun V D => ⟨(box2 D.x).1, (box2 D.x).2.1, (box2 D.y).1, (box2 D.y).2.1⟩
  have DD : ∀ V, DuZ w V so sn sc ao an ac uo un uc bo bn bc → DuZ w V.drew so sn sc ao an ac uo un uc bo bn bc := fun V D => D.below (B := V.heap.size) (Below.refl _ _).drew D.sz
  clear htl
  have t1 : ((sn : Int) == 0) = false := by simp; omega
  have t1b : (sn == 0) = false := by simp; omega
  have t1c : ¬ sn = 0 := by omega
  have t2 : decide (0 < un) = true := by simpa using h2
  have t3 : (0 : Int) < (un : Int) := by omega
  have t4 : ((an : Int) != (tl : Int)) = false := by simp; omega
  have t4b : (an != tl) = false := by simpa using hb
  have HB : Hid (an = tl) := hb
  clear hb
  have t6 : (F != 0) = true := by simpa using hF0
  clear hF0
  go_enter Tryz.func145, Tryz.ntmps145
  go_wp2
  have DB := DD _ D0
  have sB := DB.sz
  go_region_held3 (fun V => V.cell? ⟨w.heap.size, 0, none⟩ = some (.slice so sn sc) ∧ V.cell? ⟨w.heap.size, 1, none⟩ = some (.slice ao an ac) ∧ V.cell? ⟨w.heap.size + 1, 0, none⟩ = some (.slice uo un uc) ∧ V.cell? ⟨w.heap.size + 1, 1, none⟩ = some (.slice bo bn bc)) (first | exact al _ DB | exact al _ D1 | exact al _ D0)
    (first
      | (go_at_call 182; (with_reducible refine (cIt _ DB).mono ?_); rintro e w1 ⟨rfl, k1⟩; have D1 := DB.below k1 sB; have s1 := D1.sz; obtain ⟨y0, y1, _, _⟩ := box2 D1.x; obtain ⟨y2, y3, _, _⟩ := box2 D1.y; obtain ⟨r0, r1, r2, r3⟩ := box2 D1.r))
  go_wp2_with (first
    | (go_at_call 193; (with_reducible refine (hI _ (D1).bel).mono ?_); rintro e w2 ⟨rfl, hw2⟩; rw [hw2]; clear hw2 w2)
    | (go_at_call 33; (with_reducible refine (split1 uo _ uc sy _ (hy.below (D1).bel (Nat.le_refl _)) hsy un4).mono ?_); rintro e w3 ⟨o1, n1, c1, o2, n2, c2, rfl, r3, l3, n24, k3⟩; have D3 := (D1).below k3 (D1).sz; have s3 := D3.sz)
    | (go_at_call 41; (with_reducible refine (conc_T w3 T o2 n2 c2 _ T4 r3 l3 n24).mono ?_); rintro e w4 ⟨o4, c4, rfl, f4, k4⟩; have D4 := D3.below k4 s3; have s4 := D4.sz; have cF := may_any _ _ c4 _ _ f4.rd; rw [hF] at cF)
    | (go_at_call 40; (with_reducible refine cF.mono ?_); rintro e w5 ⟨rfl, hw5⟩; rw [hw5]; clear hw5 w5; obtain ⟨r0, r1, r2, r3⟩ := box2 D4.r))
  (try simp only [Exit.inBlock, Exit.then])
  refine bodyPost_ret (v := .tuple #[.agg #[.slice none 0 0, .slice none 0 0], .int .i64 F]) (by rw [results_cell_tmp rfl]; go_simp) rfl ?_
  exact ret0 rfl (below_set2 _ _ _ _ D4.bel (by omega) (Nat.le_refl _))
end Go.Proofs.YtelcagfaflpolaaGreat
