
/- Contracts of package digit: the places below an axis; counting. -/

import Derived.Test.YtjnlkdeiccllgaaZA

namespace Go.Proofs.Ytjnlkdeiccllgaa

open Go.RowKit

set_option linter.unusedVariables false

/-- The i-th place below p along an axis of n. -/
def blI (n p : Int) (i : Nat) : Int := if n < 0 then p * (-n) + (-n - 1 - (i : Int)) else p * n + (i : Int)
def blw (n : Int) (ps : List Int) : List Int := ps.flatMap (fun p => (List.range n.natAbs).map (blI n p))
theorem blw_snoc (n : Int) (ps : List Int) (p : Int) : blw n (ps ++ [p]) = blw n ps ++ (List.range n.natAbs).map (blI n p) := by simp [blw]
theorem blw_len (n : Int) (ps : List Int) : (blw n ps).length = ps.length * n.natAbs := by
  induction ps with
  | nil => simp [blw]
  | cons p ps ih =>
    rw [blw, List.flatMap_cons, List.length_append, List.length_map, List.length_range, List.length_cons, Nat.succ_mul]
    rw [blw] at ih
    rw [ih, Nat.add_comm]
theorem mul_near {p L m : Int} (h0 : 0 ≤ p) (h1 : p + 1 ≤ m) (hL : 0 ≤ L) : 0 ≤ p * L ∧ p * L + L ≤ m * L := by
  refine ⟨Int.mul_nonneg h0 hL, ?_⟩
  have := Int.mul_le_mul_of_nonneg_right h1 hL
  rw [Int.add_mul, Int.one_mul] at this
  exact this
theorem blI_bd {n p : Int} {m i : Nat} (h0 : 0 ≤ p) (h1 : p < m) (hi : i < n.natAbs) : 0 ≤ blI n p i ∧ blI n p i < (m : Int) * (n.natAbs : Nat) := by
  unfold blI
  split
  · have e : ((n.natAbs : Nat) : Int) = -n := by omega
    obtain ⟨a, b⟩ := mul_near h0 (show p + 1 ≤ (m : Int) by omega) (show 0 ≤ -n by omega)
    rw [e]; omega
  · have e : ((n.natAbs : Nat) : Int) = n := by omega
    obtain ⟨a, b⟩ := mul_near h0 (show p + 1 ≤ (m : Int) by omega) (show 0 ≤ n by omega)
    rw [e]; omega
theorem blw_mem {n : Int} {ps : List Int} {m : Nat} (h : ∀ p ∈ ps, 0 ≤ p ∧ p < (m : Int)) : ∀ x ∈ blw n ps, 0 ≤ x ∧ x < ((m * n.natAbs : Nat) : Int) := by
  intro x hx
  obtain ⟨p, hp, hx⟩ := List.mem_flatMap.1 hx
  obtain ⟨i, hi, rfl⟩ := List.mem_map.1 hx
  have := blI_bd (h p hp).1 (h p hp).2 (List.mem_range.1 hi)
  rw [Int.natCast_mul]
  exact this

set_option maxHeartbeats 4000000 in
set_option maxRecDepth 20000 in
theorem below_pos (po : Option Addr) (pn pc : Nat) (n : Int) (ps : List Int) (w : World) (h : Rd w po pn ps) (hn1 : -4096 ≤ n) (hn2 : n ≤ 4096) (hsg : 0 ≤ n) (hn : pn * n.natAbs ≤ 4096) (hp : ∀ p ∈ ps, 0 ≤ p ∧ p < (pn : Int)) (hpn : pn ≤ 4096) :
    Calls Try.prog 30 #[.slice po pn pc, .int .i64 n] w fun e w' => ∃ oo oc, e = .returned (.slice oo (pn * n.natAbs) oc) ∧ Ft 2 w' w.heap.size oo (pn * n.natAbs) oc (blw n ps) ∧ Below w.heap.size w w' := by
  have hroom := h.room
  have hps : Hid (∀ k, k < pn → 0 ≤ nth ps k ∧ nth ps k < (pn : Int)) := fun k hk => hp _ (nth_mem (by rw [h.len]; exact hk))
  have HL : Hid (ps.length = pn) := h.len
  obtain ⟨L, hL⟩ : ∃ L : Nat, L = n.natAbs := ⟨_, rfl⟩
  have hLn : n = (L : Int) := by omega
  have hmk := run_make_room (P := Try.prog) 24 2 (.int .i64 0) 8 Try.underlying24 infoL3 rfl .i64 .i64 (pn * L) (by rw [hL]; omega) (by rw [hL]; omega)
  have hmk' : ∀ X : World, (Instr.makeSlice 24 (.int .i64 0) (.int .i64 ((pn : Int) * (L : Int)))).run Try.prog X = .ok (.slice (some ⟨X.heap.size, 0, none⟩) 0 (pn * L)) (X.alloc (.cells (madeCells #[.int .i64 0] (pn * L)) 2)) := fun X => by simpa using hmk X
  have hcap : ((pn * L : Nat) : Int) = (pn : Int) * (L : Int) := Int.natCast_mul _ _
  rw [← hL] at hn ⊢
  have hL4 : L ≤ 4096 := by omega
  have hwm := wrZ (z := (pn : Int) * (L : Int)) (by omega) (by omega)
  have f0 := room_ftT 2 w (pn * L) (by omega)
  have HN : Hid (pn * L ≤ 4096) := hn
  have HB : Hid (∀ p i, 0 ≤ p → p < (pn : Int) → i < L → 0 ≤ blI n p i ∧ blI n p i < 4097) := by
    intro p i h0 h1 hi
    have := blI_bd (n := n) h0 h1 (i := i) (by rw [← hL]; exact hi)
    rw [← hL] at this
    omega
  have HT : Hid (blw n (ps.take pn) = blw n ps) := by show _ = _; rw [List.take_of_length_le (by rw [HL.out]; exact Nat.le_refl _)]
  have HK : Hid (∀ k, k < pn → blw n (ps.take k) ++ (List.range L).map (blI n (nth ps k)) = blw n (ps.take (k + 1))) := by
    intro k hk
    rw [hL, take_nth (by rw [HL.out]; exact hk), blw_snoc]
  clear hmk hcap hp hn hL
  subst hLn
  have t0 : decide ((L : Int) < 0) = false := by simp
  go_enter Try.func30, Try.ntmps30
  go_wp2
  go_loopw [8, 27] (fun s i V => ∃ (k : Nat) (oo : Option Addr) (oc : Nat), k ≤ pn ∧ i = .int .i64 (k : Nat) ∧ s = .slice oo (k * L) oc ∧ Ft 2 V w.heap.size oo (k * L) oc (blw (L : Int) (ps.take k)) ∧ Below w.heap.size w V) (fun _ i _ => pn - (intOf i).toNat)
  case atStart => exact ⟨0, _, _, Nat.zero_le _, rfl, by rw [Nat.zero_mul], by rw [Nat.zero_mul]; exact f0, box_below _ _⟩
  case round =>
    obtain ⟨k, oo, oc, hk, rfl, rfl, fo, Bk⟩ := hrel
    clear f0 hmk'
    by_cases hlt : k < pn
    · obtain ⟨b, off, rfl, hb, hc⟩ := (h.below Bk (Nat.le_refl _)).cells (by omega)
      have c1 := hc k hlt
      have hx := hps.out k hlt
      have HKK : Hid (_) := HK.out k hlt
      have hkm : Hid (k * L + L ≤ 4096) := by
        have := Nat.mul_le_mul_right L (show k + 1 ≤ pn by omega)
        rw [Nat.succ_mul] at this
        exact Nat.le_trans this HN.out
      have HBK := HB.out (nth ps k)
      clear hc
      generalize nth ps k = x at *
      obtain ⟨ml, mh⟩ := mul_near hx.1 (show x + 1 ≤ (pn : Int) by omega) (show 0 ≤ (L : Int) by omega)
      have hx4 : x * (L : Int) ≤ 4096 * 4096 := Int.mul_le_mul (by omega) (by omega) (by omega) (by omega)
      have wx := wrZ (z := x * (L : Int)) (by omega) (by omega)
      go_wp2
      generalize hM : k * L = M at *
      go_loopw [8, 32] (fun s i V => ∃ (j : Nat) (o2 : Option Addr) (c2 : Nat), j ≤ L ∧ i = .int .i64 (j : Nat) ∧ s = .slice o2 (M + j) c2 ∧ Ft 2 V w.heap.size o2 (M + j) c2 (blw (L : Int) (ps.take k) ++ (List.range j).map (blI (L : Int) x)) ∧ Below w.heap.size w V) (fun _ i _ => L - (intOf i).toNat)
      case atStart => exact ⟨0, oo, oc, Nat.zero_le _, rfl, rfl, by simpa using fo, Bk⟩
      case round =>
        obtain ⟨j, o2, c2, hj, rfl, rfl, f2, B2⟩ := hrel
        clear fo Bk
        by_cases hlt2 : j < L
        · have hbd := HBK j hx.1 hx.2 hlt2
          have s2 := B2.size
          have hv : (x * (L : Int) + (j : Int)) = blI (L : Int) x j := by unfold blI; rw [if_neg (by omega)]
          have w3 : IntKind.i64.wrap (x * (L : Int) + (j : Int)) = x * (L : Int) + (j : Int) := wrZ (by omega) (by omega)
          have HV : Hid ((x * (L : Int) + (j : Int)) = blI (L : Int) x j) := hv
          clear hv
          go_wp2_with (at_builtin; refine wpList_joinT tyL rfl _ _ rfl w.heap.size o2 (some ⟨wr.heap.size, 0, none⟩) (M + j) c2 1 1 _ [(x * (L : Int) + (j : Int))] rfl rfl (f2.below (box_below wr _) (Nat.le_refl _)) (ft_new 2 wr [(x * (L : Int) + (j : Int))] (by simp) (num1 (by have := HV.out; omega) (by have := HV.out; omega))).rd (ft_new 2 wr [(x * (L : Int) + (j : Int))] (by simp) (num1 (by have := HV.out; omega) (by have := HV.out; omega))).sl (by have := hkm.out; omega) (by simp; omega) ?_; intro co3 c3 w3 f3 b3)
          go_roundw
          case rel =>
            rw [HV.out, List.append_assoc, range_snoc] at f3
            exact ⟨j + 1, co3, c3, by omega, by go_num, rfl, f3, B2.trans (((box_below wr _).mono s2).trans b3)⟩
          case measure => simp [intOf]; omega
        · obtain rfl : j = L := by omega
          go_wp2
          go_roundw
          case rel =>
            rw [HKK.out] at f2
            refine ⟨k + 1, o2, c2, by omega, by go_num, ?_, ?_, B2⟩
            · rw [Nat.succ_mul, hM]
            · rw [Nat.succ_mul, hM]; exact f2
          case measure => simp [intOf]; omega
    · obtain rfl : k = pn := by omega
      go_wp2
      go_ret
      rw [HT.out] at fo
      exact ⟨_, _, rfl, fo, Bk⟩

set_option maxHeartbeats 4000000 in
set_option maxRecDepth 20000 in
theorem below_neg (po : Option Addr) (pn pc : Nat) (n : Int) (ps : List Int) (w : World) (h : Rd w po pn ps) (hn1 : -4096 ≤ n) (hn2 : n ≤ 4096) (hsg : n < 0) (hn : pn * n.natAbs ≤ 4096) (hp : ∀ p ∈ ps, 0 ≤ p ∧ p < (pn : Int)) (hpn : pn ≤ 4096) :
    Calls Try.prog 30 #[.slice po pn pc, .int .i64 n] w fun e w' => ∃ oo oc, e = .returned (.slice oo (pn * n.natAbs) oc) ∧ Ft 2 w' w.heap.size oo (pn * n.natAbs) oc (blw n ps) ∧ Below w.heap.size w w' := by
  have hroom := h.room
  have hps : Hid (∀ k, k < pn → 0 ≤ nth ps k ∧ nth ps k < (pn : Int)) := fun k hk => hp _ (nth_mem (by rw [h.len]; exact hk))
  have HL : Hid (ps.length = pn) := h.len
  obtain ⟨L, hL⟩ : ∃ L : Nat, L = n.natAbs := ⟨_, rfl⟩
  have hLn : n = -(L : Int) := by omega
  have hmk := run_make_room (P := Try.prog) 24 2 (.int .i64 0) 8 Try.underlying24 infoL3 rfl .i64 .i64 (pn * L) (by rw [hL]; omega) (by rw [hL]; omega)
  have hmk' : ∀ X : World, (Instr.makeSlice 24 (.int .i64 0) (.int .i64 ((pn : Int) * (L : Int)))).run Try.prog X = .ok (.slice (some ⟨X.heap.size, 0, none⟩) 0 (pn * L)) (X.alloc (.cells (madeCells #[.int .i64 0] (pn * L)) 2)) := fun X => by simpa using hmk X
  have hcap : ((pn * L : Nat) : Int) = (pn : Int) * (L : Int) := Int.natCast_mul _ _
  rw [← hL] at hn ⊢
  have hL4 : L ≤ 4096 := by omega
  have hwm := wrZ (z := (pn : Int) * (L : Int)) (by omega) (by omega)
  have f0 := room_ftT 2 w (pn * L) (by omega)
  have HN : Hid (pn * L ≤ 4096) := hn
  have HB : Hid (∀ p i, 0 ≤ p → p < (pn : Int) → i < L → 0 ≤ blI n p i ∧ blI n p i < 4097) := by
    intro p i h0 h1 hi
    have := blI_bd (n := n) h0 h1 (i := i) (by rw [← hL]; exact hi)
    rw [← hL] at this
    omega
  have HT : Hid (blw n (ps.take pn) = blw n ps) := by show _ = _; rw [List.take_of_length_le (by rw [HL.out]; exact Nat.le_refl _)]
  have HK : Hid (∀ k, k < pn → blw n (ps.take k) ++ (List.range L).map (blI n (nth ps k)) = blw n (ps.take (k + 1))) := by
    intro k hk
    rw [hL, take_nth (by rw [HL.out]; exact hk), blw_snoc]
  clear hmk hcap hp hn hL
  have t0 : decide (n < 0) = true := by simpa using hsg
  have wn : IntKind.i64.wrap (-n) = (L : Int) := by rw [hLn, Int.neg_neg]; exact wrZ (by omega) (by omega)
  have wn2 : IntKind.i64.wrap ((L : Int) - 1) = (L : Int) - 1 := wrZ (by omega) (by omega)
  have HLn : Hid (n = -(L : Int)) := hLn
  clear hLn hsg hn1 hn2
  go_enter Try.func30, Try.ntmps30
  go_wp2
  go_loopw [8, 27] (fun s i V => ∃ (k : Nat) (oo : Option Addr) (oc : Nat), k ≤ pn ∧ i = .int .i64 (k : Nat) ∧ s = .slice oo (k * L) oc ∧ Ft 2 V w.heap.size oo (k * L) oc (blw n (ps.take k)) ∧ Below w.heap.size w V) (fun _ i _ => pn - (intOf i).toNat)
  case atStart => exact ⟨0, _, _, Nat.zero_le _, rfl, by rw [Nat.zero_mul], by rw [Nat.zero_mul]; exact f0, box_below _ _⟩
  case round =>
    obtain ⟨k, oo, oc, hk, rfl, rfl, fo, Bk⟩ := hrel
    clear f0 hmk'
    by_cases hlt : k < pn
    · obtain ⟨b, off, rfl, hb, hc⟩ := (h.below Bk (Nat.le_refl _)).cells (by omega)
      have c1 := hc k hlt
      have hx := hps.out k hlt
      have HKK : Hid (_) := HK.out k hlt
      have hkm : Hid (k * L + L ≤ 4096) := by
        have := Nat.mul_le_mul_right L (show k + 1 ≤ pn by omega)
        rw [Nat.succ_mul] at this
        exact Nat.le_trans this HN.out
      have HBK := HB.out (nth ps k)
      clear hc
      generalize nth ps k = x at *
      obtain ⟨ml, mh⟩ := mul_near hx.1 (show x + 1 ≤ (pn : Int) by omega) (show 0 ≤ (L : Int) by omega)
      have hx4 : x * (L : Int) ≤ 4096 * 4096 := Int.mul_le_mul (by omega) (by omega) (by omega) (by omega)
      have wx := wrZ (z := x * (L : Int)) (by omega) (by omega)
      go_wp2
      generalize hM : k * L = M at *
      go_loopw [8, 32] (fun s i V => ∃ (j : Nat) (o2 : Option Addr) (c2 : Nat), j ≤ L ∧ i = .int .i64 (j : Nat) ∧ s = .slice o2 (M + j) c2 ∧ Ft 2 V w.heap.size o2 (M + j) c2 (blw n (ps.take k) ++ (List.range j).map (blI n x)) ∧ Below w.heap.size w V) (fun _ i _ => L - (intOf i).toNat)
      case atStart => exact ⟨0, oo, oc, Nat.zero_le _, rfl, rfl, by simpa using fo, Bk⟩
      case round =>
        obtain ⟨j, o2, c2, hj, rfl, rfl, f2, B2⟩ := hrel
        clear fo Bk
        by_cases hlt2 : j < L
        · have hbd := HBK j hx.1 hx.2 hlt2
          have s2 := B2.size
          have hv : (x * (L : Int) + ((L : Int) - 1) + -(j : Int)) = blI n x j := by unfold blI; have := HLn.out; rw [if_pos (by omega), this, Int.neg_neg]; omega
          have w1 : IntKind.i64.wrap (x * (L : Int) + ((L : Int) - 1)) = x * (L : Int) + ((L : Int) - 1) := wrZ (by omega) (by omega)
          have w2 : IntKind.i64.wrap (-(j : Int)) = -(j : Int) := wrZ (by omega) (by omega)
          have w3 : IntKind.i64.wrap (x * (L : Int) + ((L : Int) - 1) + -(j : Int)) = x * (L : Int) + ((L : Int) - 1) + -(j : Int) := wrZ (by omega) (by omega)
          have HV : Hid ((x * (L : Int) + ((L : Int) - 1) + -(j : Int)) = blI n x j) := hv
          clear hv
          go_wp2_with (at_builtin; refine wpList_joinT tyL rfl _ _ rfl w.heap.size o2 (some ⟨wr.heap.size, 0, none⟩) (M + j) c2 1 1 _ [(x * (L : Int) + ((L : Int) - 1) + -(j : Int))] rfl rfl (f2.below (box_below wr _) (Nat.le_refl _)) (ft_new 2 wr [(x * (L : Int) + ((L : Int) - 1) + -(j : Int))] (by simp) (num1 (by have := HV.out; omega) (by have := HV.out; omega))).rd (ft_new 2 wr [(x * (L : Int) + ((L : Int) - 1) + -(j : Int))] (by simp) (num1 (by have := HV.out; omega) (by have := HV.out; omega))).sl (by have := hkm.out; omega) (by simp; omega) ?_; intro co3 c3 w3 f3 b3)
          go_roundw
          case rel =>
            rw [HV.out, List.append_assoc, range_snoc] at f3
            exact ⟨j + 1, co3, c3, by omega, by go_num, rfl, f3, B2.trans (((box_below wr _).mono s2).trans b3)⟩
          case measure => simp [intOf]; omega
        · obtain rfl : j = L := by omega
          go_wp2
          go_roundw
          case rel =>
            rw [HKK.out] at f2
            refine ⟨k + 1, o2, c2, by omega, by go_num, ?_, ?_, B2⟩
            · rw [Nat.succ_mul, hM]
            · rw [Nat.succ_mul, hM]; exact f2
          case measure => simp [intOf]; omega
    · obtain rfl : k = pn := by omega
      go_wp2
      go_ret
      rw [HT.out] at fo
      exact ⟨_, _, rfl, fo, Bk⟩
theorem below_any (po : Option Addr) (pn pc : Nat) (n : Int) (ps : List Int) (w : World) (h : Rd w po pn ps) (hn1 : -4096 ≤ n) (hn2 : n ≤ 4096) (hn : pn * n.natAbs ≤ 4096) (hp : ∀ p ∈ ps, 0 ≤ p ∧ p < (pn : Int)) (hpn : pn ≤ 4096) :
    Calls Try.prog 30 #[.slice po pn pc, .int .i64 n] w fun e w' => ∃ oo oc, e = .returned (.slice oo (pn * n.natAbs) oc) ∧ Ft 2 w' w.heap.size oo (pn * n.natAbs) oc (blw n ps) ∧ Below w.heap.size w w' := by
  by_cases hs : n < 0
  · exact below_neg po pn pc n ps w h hn1 hn2 hs hn hp hpn
  · exact below_pos po pn pc n ps w h hn1 hn2 (by omega) hn hp hpn
end Go.Proofs.Ytjnlkdeiccllgaa
