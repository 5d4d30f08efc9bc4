
/- Contracts of package digit: counting. -/

import Derived.Test.YtelcagfaflpolaaGreatZA

namespace Go.Proofs.YtelcagfaflpolaaGreat

open Go.RowKit

set_option linter.unusedVariables false

/-- The i-th place below p along an axis of n. -/
def blI (n p : Int) (i : Nat) : Int := if n < 0 then p * (-n) + (-n - 1 - (i : Int)) else p * n + (i : Int)
def blw (n : Int) (ps : List Int) : List Int := ps.flatMap (fun p => (List.range n.natAbs).map (blI n p))
theorem blw_snoc (n : Int) (ps : List Int) (p : Int) : blw n (ps ++ [p]) = blw n ps ++ (List.range n.natAbs).map (blI n p) := by simp [blw]
theorem mul_near {p L m : Int} (h0 : 0 ≤ p) (h1 : p + 1 ≤ m) (hL : 0 ≤ L) : 0 ≤ p * L ∧ p * L + L ≤ m * L := by
  refine ⟨Int.mul_nonneg h0 hL, ?_⟩
  have := Int.mul_le_mul_of_nonneg_right h1 hL
  rw [Int.add_mul, Int.one_mul] at this
  exact this
theorem blI_bd {n p : Int} {m i : Nat} (h0 : 0 ≤ p) (h1 : p < m) (hi : i < n.natAbs) : 0 ≤ blI n p i ∧ blI n p i < (m : Int) * (n.natAbs : Nat) := by
  unfold blI
  split
  · have e : ((n.natAbs : Nat) : Int) = -n := by omega
    obtain ⟨a, b⟩ := mul_near h0 (show p + 1 ≤ (m : Int) by omega) (show 0 ≤ -n by omega)
    rw [e]; omega
  · have e : ((n.natAbs : Nat) : Int) = n := by omega
    obtain ⟨a, b⟩ := mul_near h0 (show p + 1 ≤ (m : Int) by omega) (show 0 ≤ n by omega)
    rw [e]; omega
theorem blw_mem {n : Int} {ps : List Int} {m : Nat} (h : ∀ p ∈ ps, 0 ≤ p ∧ p < (m : Int)) : ∀ x ∈ blw n ps, 0 ≤ x ∧ x < ((m * n.natAbs : Nat) : Int) := by
  intro x hx
  obtain ⟨p, hp, hx⟩ := List.mem_flatMap.1 hx
  obtain ⟨i, hi, rfl⟩ := List.mem_map.1 hx
  have := blI_bd (h p hp).1 (h p hp).2 (List.mem_range.1 hi)
  rw [Int.natCast_mul]
  exact this

set_option maxHeartbeats 4000000 in
set_option maxRecDepth 20000 in
theorem below_pos (po : Option Addr) (pn pc : Nat) (n : Int) (ps : List Int) (w : World) (h : Rd w po pn ps) (hn1 : -4096 ≤ n) (hn2 : n ≤ 4096) (hsg : 0 ≤ n) (hn : pn * n.natAbs ≤ 4096) (hp : ∀ p ∈ ps, 0 ≤ p ∧ p < (pn : Int)) (hpn : pn ≤ 4096) :
    Calls Tryz.prog 192 #[.slice po pn pc, .int .i64 n] w fun e w' => ∃ oo oc, e = .returned (.slice oo (pn * n.natAbs) oc) ∧ Ft 2 w' w.heap.size oo (pn * n.natAbs) oc (blw n ps) ∧ Below w.heap.size w w' := by
  have hroom := h.room
  have hps : Hid (∀ k, k < pn → 0 ≤ nth ps k ∧ nth ps k < (pn : Int)) := fun k hk => hp _ (nth_mem (by rw [h.len]; exact hk))
  have HL : Hid (ps.length = pn) := h.len
  obtain ⟨L, hL⟩ : ∃ L : Nat, L = n.natAbs := ⟨_, rfl⟩
  have hLn : n = (L : Int) := by omega
  have hmk := run_make_room (P := Tryz.prog) 34 2 (.int .i64 0) 8 Tryz.underlying34 infoL3 rfl .i64 .i64 (pn * L) (by rw [hL]; omega) (by rw [hL]; omega)
  have hmk' : ∀ X : World, (Instr.makeSlice 34 (.int .i64 0) (.int .i64 ((pn : Int) * (L : Int)))).run Tryz.prog X = .ok (.slice (some ⟨X.heap.size, 0, none⟩) 0 (pn * L)) (X.alloc (.cells (madeCells #[.int .i64 0] (pn * L)) 2)) := fun X => by simpa using hmk X
  have hcap : ((pn * L : Nat) : Int) = (pn : Int) * (L : Int) := Int.natCast_mul _ _
  rw [← hL] at hn ⊢
  have hL4 : L ≤ 4096 := by omega
  have hwm := wrZ (z := (pn : Int) * (L : Int)) (by omega) (by omega)
  have f0 := room_ftT 2 w (pn * L) (by omega)
  have HN : Hid (pn * L ≤ 4096) := hn
  have HB : Hid (∀ p i, 0 ≤ p → p < (pn : Int) → i < L → 0 ≤ blI n p i ∧ blI n p i < 4097) := by
    intro p i h0 h1 hi
    have := blI_bd (n := n) h0 h1 (i := i) (by rw [← hL]; exact hi)
    rw [← hL] at this
    omega
  have HT : Hid (blw n (ps.take pn) = blw n ps) := by show _ = _; rw [List.take_of_length_le (by rw [HL.out]; exact Nat.le_refl _)]
  have HK : Hid (∀ k, k < pn → blw n (ps.take k) ++ (List.range L).map (blI n (nth ps k)) = blw n (ps.take (k + 1))) := by
    intro k hk
    rw [hL, take_nth (by rw [HL.out]; exact hk), blw_snoc]
  clear hmk hcap hp hn hL
  subst hLn
  have t0 : decide ((L : Int) < 0) = false := by simp
  go_enter Tryz.func192, Tryz.ntmps192
  go_wp2
  go_loopw [8, 27] (fun s i V => ∃ (k : Nat) (oo : Option Addr) (oc : Nat), k ≤ pn ∧ i = .int .i64 (k : Nat) ∧ s = .slice oo (k * L) oc ∧ Ft 2 V w.heap.size oo (k * L) oc (blw (L : Int) (ps.take k)) ∧ Below w.heap.size w V) (fun _ i _ => pn - (intOf i).toNat)
  case atStart => exact ⟨0, _, _, Nat.zero_le _, rfl, by rw [Nat.zero_mul], by rw [Nat.zero_mul]; exact f0, box_below _ _⟩
  case round =>
    obtain ⟨k, oo, oc, hk, rfl, rfl, fo, Bk⟩ := hrel
    clear f0 hmk'
    by_cases hlt : k < pn
    · obtain ⟨b, off, rfl, hb, hc⟩ := (h.below Bk (Nat.le_refl _)).cells (by omega)
      have c1 := hc k hlt
      have hx := hps.out k hlt
      have HKK : Hid (_) := HK.out k hlt
      have hkm : Hid (k * L + L ≤ 4096) := by
        have := Nat.mul_le_mul_right L (show k + 1 ≤ pn by omega)
        rw [Nat.succ_mul] at this
        exact Nat.le_trans this HN.out
      have HBK := HB.out (nth ps k)
      clear hc
      generalize nth ps k = x at *
      obtain ⟨ml, mh⟩ := mul_near hx.1 (show x + 1 ≤ (pn : Int) by omega) (show 0 ≤ (L : Int) by omega)
      have hx4 : x * (L : Int) ≤ 4096 * 4096 := Int.mul_le_mul (by omega) (by omega) (by omega) (by omega)
      have wx := wrZ (z := x * (L : Int)) (by omega) (by omega)
      go_wp2
      generalize hM : k * L = M at *
      go_loopw [8, 32] (fun s i V => ∃ (j : Nat) (o2 : Option Addr) (c2 : Nat), j ≤ L ∧ i = .int .i64 (j : Nat) ∧ s = .slice o2 (M + j) c2 ∧ Ft 2 V w.heap.size o2 (M + j) c2 (blw (L : Int) (ps.take k) ++ (List.range j).map (blI (L : Int) x)) ∧ Below w.heap.size w V) (fun _ i _ => L - (intOf i).toNat)
      case atStart => exact ⟨0, oo, oc, Nat.zero_le _, rfl, rfl, by simpa using fo, Bk⟩
      case round =>
        obtain ⟨j, o2, c2, hj, rfl, rfl, f2, B2⟩ := hrel
        clear fo Bk
        by_cases hlt2 : j < L
        · have hbd := HBK j hx.1 hx.2 hlt2
          have s2 := B2.size
          have hv : (x * (L : Int) + (j : Int)) = blI (L : Int) x j := by unfold blI; rw [if_neg (by omega)]
          have w3 : IntKind.i64.wrap (x * (L : Int) + (j : Int)) = x * (L : Int) + (j : Int) := wrZ (by omega) (by omega)
          have HV : Hid ((x * (L : Int) + (j : Int)) = blI (L : Int) x j) := hv
          clear hv
          go_wp2_with (at_builtin; refine wpList_joinT tyL rfl _ _ rfl w.heap.size o2 (some ⟨wr.heap.size, 0, none⟩) (M + j) c2 1 1 _ [(x * (L : Int) + (j : Int))] rfl rfl (f2.below (box_below wr _) (Nat.le_refl _)) (ft_new 2 wr [(x * (L : Int) + (j : Int))] (by simp) (num1 (by have := HV.out; omega) (by have := HV.out; omega))).rd (ft_new 2 wr [(x * (L : Int) + (j : Int))] (by simp) (num1 (by have := HV.out; omega) (by have := HV.out; omega))).sl (by have := hkm.out; omega) (by simp; omega) ?_; intro co3 c3 w3 f3 b3)
          go_roundw
          case rel =>
            rw [HV.out, List.append_assoc, range_snoc] at f3
            exact ⟨j + 1, co3, c3, by omega, by go_num, rfl, f3, B2.trans (((box_below wr _).mono s2).trans b3)⟩
          case measure => simp [intOf]; omega
        · obtain rfl : j = L := by omega
          go_wp2
          go_roundw
          case rel =>
            rw [HKK.out] at f2
            refine ⟨k + 1, o2, c2, by omega, by go_num, ?_, ?_, B2⟩
            · rw [Nat.succ_mul, hM]
            · rw [Nat.succ_mul, hM]; exact f2
          case measure => simp [intOf]; omega
    · obtain rfl : k = pn := by omega
      go_wp2
      go_ret
      rw [HT.out] at fo
      exact ⟨_, _, rfl, fo, Bk⟩

set_option maxHeartbeats 4000000 in
set_option maxRecDepth 20000 in
theorem below_neg (po : Option Addr) (pn pc : Nat) (n : Int) (ps : List Int) (w : World) (h : Rd w po pn ps) (hn1 : -4096 ≤ n) (hn2 : n ≤ 4096) (hsg : n < 0) (hn : pn * n.natAbs ≤ 4096) (hp : ∀ p ∈ ps, 0 ≤ p ∧ p < (pn : Int)) (hpn : pn ≤ 4096) :
    Calls Tryz.prog 192 #[.slice po pn pc, .int .i64 n] w fun e w' => ∃ oo oc, e = .returned (.slice oo (pn * n.natAbs) oc) ∧ Ft 2 w' w.heap.size oo (pn * n.natAbs) oc (blw n ps) ∧ Below w.heap.size w w' := by
  have hroom := h.room
  have hps : Hid (∀ k, k < pn → 0 ≤ nth ps k ∧ nth ps k < (pn : Int)) := fun k hk => hp _ (nth_mem (by rw [h.len]; exact hk))
  have HL : Hid (ps.length = pn) := h.len
  obtain ⟨L, hL⟩ : ∃ L : Nat, L = n.natAbs := ⟨_, rfl⟩
  have hLn : n = -(L : Int) := by omega
  have hmk := run_make_room (P := Tryz.prog) 34 2 (.int .i64 0) 8 Tryz.underlying34 infoL3 rfl .i64 .i64 (pn * L) (by rw [hL]; omega) (by rw [hL]; omega)
  have hmk' : ∀ X : World, (Instr.makeSlice 34 (.int .i64 0) (.int .i64 ((pn : Int) * (L : Int)))).run Tryz.prog X = .ok (.slice (some ⟨X.heap.size, 0, none⟩) 0 (pn * L)) (X.alloc (.cells (madeCells #[.int .i64 0] (pn * L)) 2)) := fun X => by simpa using hmk X
  have hcap : ((pn * L : Nat) : Int) = (pn : Int) * (L : Int) := Int.natCast_mul _ _
  rw [← hL] at hn ⊢
  have hL4 : L ≤ 4096 := by omega
  have hwm := wrZ (z := (pn : Int) * (L : Int)) (by omega) (by omega)
  have f0 := room_ftT 2 w (pn * L) (by omega)
  have HN : Hid (pn * L ≤ 4096) := hn
  have HB : Hid (∀ p i, 0 ≤ p → p < (pn : Int) → i < L → 0 ≤ blI n p i ∧ blI n p i < 4097) := by
    intro p i h0 h1 hi
    have := blI_bd (n := n) h0 h1 (i := i) (by rw [← hL]; exact hi)
    rw [← hL] at this
    omega
  have HT : Hid (blw n (ps.take pn) = blw n ps) := by show _ = _; rw [List.take_of_length_le (by rw [HL.out]; exact Nat.le_refl _)]
  have HK : Hid (∀ k, k < pn → blw n (ps.take k) ++ (List.range L).map (blI n (nth ps k)) = blw n (ps.take (k + 1))) := by
    intro k hk
    rw [hL, take_nth (by rw [HL.out]; exact hk), blw_snoc]
  clear hmk hcap hp hn hL
  have t0 : decide (n < 0) = true := by simpa using hsg
  have wn : IntKind.i64.wrap (-n) = (L : Int) := by rw [hLn, Int.neg_neg]; exact wrZ (by omega) (by omega)
  have wn2 : IntKind.i64.wrap ((L : Int) - 1) = (L : Int) - 1 := wrZ (by omega) (by omega)
  have HLn : Hid (n = -(L : Int)) := hLn
  clear hLn hsg hn1 hn2
  go_enter Tryz.func192, Tryz.ntmps192
  go_wp2
  go_loopw [8, 27] (fun s i V => ∃ (k : Nat) (oo : Option Addr) (oc : Nat), k ≤ pn ∧ i = .int .i64 (k : Nat) ∧ s = .slice oo (k * L) oc ∧ Ft 2 V w.heap.size oo (k * L) oc (blw n (ps.take k)) ∧ Below w.heap.size w V) (fun _ i _ => pn - (intOf i).toNat)
  case atStart => exact ⟨0, _, _, Nat.zero_le _, rfl, by rw [Nat.zero_mul], by rw [Nat.zero_mul]; exact f0, box_below _ _⟩
  case round =>
    obtain ⟨k, oo, oc, hk, rfl, rfl, fo, Bk⟩ := hrel
    clear f0 hmk'
    by_cases hlt : k < pn
    · obtain ⟨b, off, rfl, hb, hc⟩ := (h.below Bk (Nat.le_refl _)).cells (by omega)
      have c1 := hc k hlt
      have hx := hps.out k hlt
      have HKK : Hid (_) := HK.out k hlt
      have hkm : Hid (k * L + L ≤ 4096) := by
        have := Nat.mul_le_mul_right L (show k + 1 ≤ pn by omega)
        rw [Nat.succ_mul] at this
        exact Nat.le_trans this HN.out
      have HBK := HB.out (nth ps k)
      clear hc
      generalize nth ps k = x at *
      obtain ⟨ml, mh⟩ := mul_near hx.1 (show x + 1 ≤ (pn : Int) by omega) (show 0 ≤ (L : Int) by omega)
      have hx4 : x * (L : Int) ≤ 4096 * 4096 := Int.mul_le_mul (by omega) (by omega) (by omega) (by omega)
      have wx := wrZ (z := x * (L : Int)) (by omega) (by omega)
      go_wp2
      generalize hM : k * L = M at *
      go_loopw [8, 32] (fun s i V => ∃ (j : Nat) (o2 : Option Addr) (c2 : Nat), j ≤ L ∧ i = .int .i64 (j : Nat) ∧ s = .slice o2 (M + j) c2 ∧ Ft 2 V w.heap.size o2 (M + j) c2 (blw n (ps.take k) ++ (List.range j).map (blI n x)) ∧ Below w.heap.size w V) (fun _ i _ => L - (intOf i).toNat)
      case atStart => exact ⟨0, oo, oc, Nat.zero_le _, rfl, rfl, by simpa using fo, Bk⟩
      case round =>
        obtain ⟨j, o2, c2, hj, rfl, rfl, f2, B2⟩ := hrel
        clear fo Bk
        by_cases hlt2 : j < L
        · have hbd := HBK j hx.1 hx.2 hlt2
          have s2 := B2.size
          have hv : (x * (L : Int) + ((L : Int) - 1) + -(j : Int)) = blI n x j := by unfold blI; have := HLn.out; rw [if_pos (by omega), this, Int.neg_neg]; omega
          have w1 : IntKind.i64.wrap (x * (L : Int) + ((L : Int) - 1)) = x * (L : Int) + ((L : Int) - 1) := wrZ (by omega) (by omega)
          have w2 : IntKind.i64.wrap (-(j : Int)) = -(j : Int) := wrZ (by omega) (by omega)
          have w3 : IntKind.i64.wrap (x * (L : Int) + ((L : Int) - 1) + -(j : Int)) = x * (L : Int) + ((L : Int) - 1) + -(j : Int) := wrZ (by omega) (by omega)
          have HV : Hid ((x * (L : Int) + ((L : Int) - 1) + -(j : Int)) = blI n x j) := hv
          clear hv
          go_wp2_with (at_builtin; refine wpList_joinT tyL rfl _ _ rfl w.heap.size o2 (some ⟨wr.heap.size, 0, none⟩) (M + j) c2 1 1 _ [(x * (L : Int) + ((L : Int) - 1) + -(j : Int))] rfl rfl (f2.below (box_below wr _) (Nat.le_refl _)) (ft_new 2 wr [(x * (L : Int) + ((L : Int) - 1) + -(j : Int))] (by simp) (num1 (by have := HV.out; omega) (by have := HV.out; omega))).rd (ft_new 2 wr [(x * (L : Int) + ((L : Int) - 1) + -(j : Int))] (by simp) (num1 (by have := HV.out; omega) (by have := HV.out; omega))).sl (by have := hkm.out; omega) (by simp; omega) ?_; intro co3 c3 w3 f3 b3)
          go_roundw
          case rel =>
            rw [HV.out, List.append_assoc, range_snoc] at f3
            exact ⟨j + 1, co3, c3, by omega, by go_num, rfl, f3, B2.trans (((box_below wr _).mono s2).trans b3)⟩
          case measure => simp [intOf]; omega
        · obtain rfl : j = L := by omega
          go_wp2
          go_roundw
          case rel =>
            rw [HKK.out] at f2
            refine ⟨k + 1, o2, c2, by omega, by go_num, ?_, ?_, B2⟩
            · rw [Nat.succ_mul, hM]
            · rw [Nat.succ_mul, hM]; exact f2
          case measure => simp [intOf]; omega
    · obtain rfl : k = pn := by omega
      go_wp2
      go_ret
      rw [HT.out] at fo
      exact ⟨_, _, rfl, fo, Bk⟩
theorem belowZ_any (po : Option Addr) (pn pc : Nat) (n : Int) (ps : List Int) (w : World) (h : Rd w po pn ps) (hn1 : -4096 ≤ n) (hn2 : n ≤ 4096) (hn : pn * n.natAbs ≤ 4096) (hp : ∀ p ∈ ps, 0 ≤ p ∧ p < (pn : Int)) (hpn : pn ≤ 4096) :
    Calls Tryz.prog 192 #[.slice po pn pc, .int .i64 n] w fun e w' => ∃ oo oc, e = .returned (.slice oo (pn * n.natAbs) oc) ∧ Ft 2 w' w.heap.size oo (pn * n.natAbs) oc (blw n ps) ∧ Below w.heap.size w w' := by
  by_cases hs : n < 0
  · exact below_neg po pn pc n ps w h hn1 hn2 hs hn hp hpn
  · exact below_pos po pn pc n ps w h hn1 hn2 (by omega) hn hp hpn
end Go.Proofs.YtelcagfaflpolaaGreat


namespace Go.Proofs.YtelcagfaflpolaaGreat

open Go.RowKit

set_option linter.unusedVariables false

/-- Numbers without their signs. -/
def absL (zs : List Int) : List Int := zs.map (fun z => ((z.natAbs : Nat) : Int))
theorem absL_len (zs : List Int) : (absL zs).length = zs.length := by simp [absL]
theorem absL_nth {zs : List Int} {k : Nat} (h : k < zs.length) : nth (absL zs) k = ((nth zs k).natAbs : Nat) := by
  unfold absL nth; simp [h]
/-- The places of the first k axes. -/
def cnt (zs : List Int) (k : Nat) : List Int := (zs.take k).foldl (fun ps n => blw n ps) [0]
theorem cnt_succ {zs : List Int} {k : Nat} (h : k < zs.length) : cnt zs (k + 1) = blw (nth zs k) (cnt zs k) := by
  unfold cnt; rw [take_nth h, List.foldl_append]; rfl
/-- How many they are. -/
def cntN (zs : List Int) (k : Nat) : Nat := (zs.take k).foldl (fun p n => p * n.natAbs) 1
theorem cntN_succ {zs : List Int} {k : Nat} (h : k < zs.length) : cntN zs (k + 1) = cntN zs k * (nth zs k).natAbs := by
  unfold cntN; rw [take_nth h, List.foldl_append]; rfl
theorem cnt_mem (zs : List Int) : ∀ k, k ≤ zs.length → ∀ x ∈ cnt zs k, 0 ≤ x ∧ x < ((cntN zs k : Nat) : Int)
  | 0, _ => by intro x hx; simp [cnt] at hx; subst hx; simp [cntN]
  | k + 1, h => by rw [cnt_succ (by omega), cntN_succ (by omega)]; exact blw_mem (cnt_mem zs k (by omega))
theorem cntN_pz (zs : List Int) : ∀ k, k ≤ zs.length → ((cntN zs k : Nat) : Int) ≤ pz ((absL zs).take k)
  | 0, _ => by simp [cntN, pz]
  | k + 1, h => by
    have ih := cntN_pz zs k (by omega)
    rw [cntN_succ (by omega), take_nth (by rw [absL_len]; omega), pz_snoc, absL_nth (by omega)]
    have hp := pz_pos (l := absL zs) k (by rw [absL_len]; omega) (fun j hj => by rw [absL_nth (by omega)]; omega)
    split
    · rename_i e
      have e' : (nth zs k).natAbs = 0 := by omega
      rw [e', Nat.mul_zero]; omega
    · rw [Int.natCast_mul]
      exact Int.mul_le_mul_of_nonneg_right ih (by omega)
theorem abs_pos (zs : List Int) : ∀ k, k < (absL zs).length → 0 ≤ nth (absL zs) k := fun k hk => by rw [absL_nth (by rw [absL_len] at hk; exact hk)]; omega
theorem cntN_le {zs : List Int} (h : mayF (absL zs) = 0) {k : Nat} (hk : k ≤ zs.length) : cntN zs k ≤ 4096 := by
  obtain ⟨h1, h2, h3⟩ := mayF_zero h
  have a := cntN_pz zs k hk
  have b := pz_up (l := absL zs) (i := k) zs.length hk (by rw [absL_len]; exact Nat.le_refl _) (fun j hj => abs_pos zs j (by rw [absL_len]; exact hj))
  rw [List.take_of_length_le (l := absL zs) (i := zs.length) (by rw [absL_len]; exact Nat.le_refl _)] at b
  omega
theorem abs_le {zs : List Int} (h : mayF (absL zs) = 0) {k : Nat} (hk : k < zs.length) : (nth zs k).natAbs ≤ 4096 := by
  obtain ⟨h1, h2, h3⟩ := mayF_zero h
  by_cases h0 : (nth zs k).natAbs = 0
  · omega
  · have hp := pz_pos (l := absL zs) k (by rw [absL_len]; omega) (fun j hj => abs_pos zs j (by rw [absL_len]; omega))
    have b := pz_up (l := absL zs) (i := k + 1) zs.length (by omega) (by rw [absL_len]; exact Nat.le_refl _) (fun j hj => abs_pos zs j (by rw [absL_len]; exact hj))
    rw [List.take_of_length_le (l := absL zs) (i := zs.length) (by rw [absL_len]; exact Nat.le_refl _), take_nth (by rw [absL_len]; omega), pz_snoc, absL_nth hk, if_neg (by omega)] at b
    have := Int.mul_le_mul_of_nonneg_right hp (show 0 ≤ (((nth zs k).natAbs : Nat) : Int) by omega)
    omega
theorem abs_cases (zs : List Int) : mayF (absL zs) = 0 ∨ mayF (absL zs) = 17 := by
  rcases mayF_cases (absL zs) with h | h | h
  · exact .inl h
  · unfold mayF at h
    rw [any_no (abs_pos zs)] at h
    split at h
    · rename_i e; cases e
    · split at h
      · cases h
      · split at h
        · cases h
        · cases h
  · exact .inr h
theorem cut_abs {z : Int} (h1 : -9223372036854775808 ≤ z) (h2 : z ≤ 9223372036854775807) (h : z ≠ -9223372036854775808) : Nm.cut ((z.natAbs : Nat)) = ((z.natAbs : Nat) : Int) ∧ Nm.ovr ((z.natAbs : Nat)) = 0 :=
  ⟨Nm.cut_yes (Nm.inr_iff.2 (by omega)), Nm.ovr_yes (Nm.inr_iff.2 (by omega))⟩
theorem ovr_min : Nm.ovr (((-9223372036854775808 : Int).natAbs : Nat)) = 14 := by decide
theorem cut_min : Nm.cut (((-9223372036854775808 : Int).natAbs : Nat)) = 0 := by decide

/-- A row in block g that is being filled: its first k are f's; below g nothing has changed. -/
structure Rg (e : TypeId) (g : Nat) (W V : World) (n k : Nat) (f : Nat → Int) : Prop where
  bel : Below g W V
  row : ∃ zs, Ft e V g (some ⟨g, 0, none⟩) n n zs ∧ (∀ j, j < k → nth zs j = f j)
theorem Rg.start (e : TypeId) (W : World) (g n : Nat) (f : Nat → Int) (hg : W.heap.size = g) (hr : n * 8 ≤ 140737488351232) : Rg e g W (W.alloc (.cells (madeCells #[.int .i64 0] n) e)) n 0 f := by
  subst hg
  exact ⟨box_below W _, _, made_ftT e W n hr, fun j hj => by omega⟩
theorem Rg.lt {e : TypeId} {g : Nat} {W V : World} {n k : Nat} {f : Nat → Int} (h : Rg e g W V n k f) : g < V.heap.size := by
  obtain ⟨zs, hf, _⟩ := h.row
  rcases hf.own.2 with ⟨e1, h0⟩ | ⟨g', c, cur, e1, hB2, hg, r⟩
  · cases e1
  · cases e1
    exact (Array.getElem?_eq_some_iff.1 hg).1
theorem Rg.below {e : TypeId} {g : Nat} {W V V' : World} {n k : Nat} {f : Nat → Int} (h : Rg e g W V n k f) (b : Below V.heap.size V V') : Rg e g W V' n k f := by
  obtain ⟨zs, hf, hz⟩ := h.row
  exact ⟨h.bel.trans (b.mono (Nat.le_of_lt h.lt)), zs, hf.below b (Nat.le_refl _), hz⟩
theorem Rg.slot {e : TypeId} {g : Nat} {W V : World} {n k : Nat} {f : Nat → Int} (h : Rg e g W V n k f) {j : Nat} (hj : j < n) : ∃ u, V.cell? ⟨g, j, none⟩ = some u ∧ V.frozen? ⟨g, j, none⟩ = false := by
  obtain ⟨zs, hf, hz⟩ := h.row
  obtain ⟨b, off, e, hb, hc⟩ := hf.rd.cells (by omega)
  cases e
  have c := hc j hj
  rw [Nat.zero_add] at c
  rcases hf.own.2 with ⟨e1, h0⟩ | ⟨g', c, cur, e1, hB2, hg, r⟩
  · cases e1
  · cases e1
    exact ⟨_, c, frozen_of_row V g j _ _ hg⟩
theorem Rg.set {e : TypeId} {g : Nat} {W V : World} {n k : Nat} {f : Nat → Int} (h : Rg e g W V n k f) (hk : k < n) (u : Int) (hu : u = f k) (h1 : -9223372036854775808 ≤ u) (h2 : u ≤ 9223372036854775807) : Rg e g W (V.setCell ⟨g, k, none⟩ (.int .i64 u)) n (k + 1) f := by
  obtain ⟨zs, hf, hz⟩ := h.row
  refine ⟨h.bel.setCell (p := ⟨g, k, none⟩) (Nat.le_refl _) _, _, hf.setT k hk u h1 h2, fun j hj => ?_⟩
  rw [nth_setL (by rw [hf.rd.len]; exact hk)]
  split
  · rename_i e; rw [e, hu]
  · exact hz j (by omega)
theorem Rg.all {e : TypeId} {g : Nat} {W V : World} {n : Nat} {f : Nat → Int} (h : Rg e g W V n n f) (ys : List Int) (hl : ys.length = n) (hy : ∀ j, j < n → nth ys j = f j) : Ft e V g (some ⟨g, 0, none⟩) n n ys := by
  obtain ⟨zs, hf, hz⟩ := h.row
  have e : zs = ys := ext_nth (by rw [hf.rd.len, hl]) (fun k hk => by rw [hf.rd.len] at hk; rw [hz k hk, hy k hk])
  rw [← e]; exact hf
theorem ret17 {w : World} {e : Ending} {w' : World} (he : e = .returned (.tuple #[.agg #[.slice none 0 0, .slice none 0 0], .int .i64 17])) (b : Below w.heap.size w w') : AnsZ w (fun S A => S = [] ∧ A = []) 17 e w' :=
  ⟨none, 0, 0, none, 0, 0, [], [], he, Ft.nil _ _ _, Ft.nil _ _ _, ⟨rfl, rfl⟩, b⟩

set_option maxHeartbeats 4000000 in
set_option maxRecDepth 20000 in
theorem count_min (so ao : Option Addr) (sn sc an ac : Nat) (zs : List Int) (w : World) (g : Rd w ao an zs) (hn : an ≤ 4096) (hm : ∃ k, k < an ∧ nth zs k = -9223372036854775808) :
    Calls Tryz.prog 143 #[.agg #[.slice so sn sc, .slice ao an ac]] w fun e w' => AnsZ w (fun S A => S = [] ∧ A = []) 17 e w' := by
  have U0 := un_startZ w so sn sc ao an ac
  have hmk := fun (X : World) => run_make_row' (P := Tryz.prog) 33 3 (.int .i64 0) 8 Tryz.underlying33 infoI3 rfl .i64 .i64 an (by omega) (by omega) X
  have R0 := Rg.start 3 ((w.alloc (.cells #[.slice so sn sc, .slice ao an ac] 36)).alloc (.cells #[.slice none 0 0, .slice none 0 0] 36)) (w.heap.size + 1 + 1) an (fun j => (((nth zs j).natAbs : Nat) : Int)) (by simp) (by omega)
  obtain ⟨x0, x1, _, _⟩ := box2 U0.x
  have x2 := box2 (R0.bel.block w.heap.size (by omega) |>.trans U0.x)
  have x3 := x2.2.1
  have HL : Hid (zs.length = an) := g.len
  have HNUM : Hid (∀ k, k < an → -9223372036854775808 ≤ nth zs k ∧ nth zs k ≤ 9223372036854775807) := g.num
  have HM : Hid (∃ k, k < an ∧ nth zs k = -9223372036854775808) := hm
  have hcM := fun z (h : Nm.inr z = true) V => nmPres z h V
  clear hm x2
  go_enter Tryz.func143, Tryz.ntmps143
  go_wp2
  generalize (w.alloc (.cells #[.slice so sn sc, .slice ao an ac] 36)).alloc (.cells #[.slice none 0 0, .slice none 0 0] 36) = U at *
  clear hmk x0 x1 x3
  go_loopw [20] (fun i V => ∃ k : Nat, k ≤ an ∧ i = .int .i64 (k : Nat) ∧ Rg 3 (w.heap.size + 1 + 1) U V an k (fun j => (((nth zs j).natAbs : Nat) : Int)) ∧ ∀ j, j < k → nth zs j ≠ -9223372036854775808) (fun i _ => an - (intOf i).toNat)
  case atStart => exact ⟨0, Nat.zero_le _, rfl, R0, fun j hj => by omega⟩
  case round =>
    obtain ⟨k, hk, rfl, R, K⟩ := hrel
    clear R0
    have UV := U0.below R.bel (by omega)
    by_cases hlt : k < an
    · have t1 : decide ((k : Int) < (an : Int)) = true := by simp; omega
      have bk : (k : Int) < (an : Int) := by omega
      obtain ⟨b, off, rfl, hb, hc⟩ := (g.below UV.bel (Nat.le_refl _)).cells (by omega)
      have cc := hc k hlt
      have hnum := HNUM.out k hlt
      have hin : Nm.inr (nth zs k) = true := Nm.inr_iff.2 hnum
      have cM := hcM _ hin wr
      obtain ⟨u, c1, f1⟩ := R.slot hlt
      obtain ⟨r0, r1, r2, r3⟩ := box2 UV.r
      clear hc hin
      have HK : Hid (∀ j, j < k → nth zs j ≠ -9223372036854775808) := K
      clear K
      by_cases ez : nth zs k = -9223372036854775808
      · have eo : Nm.ovr (((nth zs k).natAbs : Nat)) = 14 := by rw [ez]; exact ovr_min
        have ec : Nm.cut (((nth zs k).natAbs : Nat)) = 0 := by rw [ez]; exact cut_min
        rw [eo, ec] at cM
        clear eo ec
        have t2 : ((14 : Int) != 0) = true := rfl
        generalize hx : nth zs k = x at *
        clear hx ez
        go_wp2_with (go_at_call 90; (with_reducible refine cM.mono ?_); rintro e w1 ⟨rfl, hw⟩; rw [hw]; clear hw w1)
        (try simp only [Exit.inBlock, Exit.then])
        refine bodyPost_ret (v := .tuple #[.agg #[.slice none 0 0, .slice none 0 0], .int .i64 17]) (by rw [results_cell_tmp rfl]; go_simp) rfl ?_
        exact ret17 rfl (below_set2 _ _ _ _ UV.bel (by omega) (Nat.le_refl _))
      · obtain ⟨ec, eo⟩ := cut_abs hnum.1 hnum.2 ez
        rw [ec, eo] at cM
        have R6 := R.set hlt (((nth zs k).natAbs : Nat) : Int) rfl (by omega) (by omega)
        have wz : IntKind.i64.wrap ((((nth zs k).natAbs : Nat) : Int)) = (((nth zs k).natAbs : Nat) : Int) := wrZ (by omega) (by omega)
        have HZ : Hid (nth zs k ≠ -9223372036854775808) := ez
        clear ec eo ez
        generalize hx : (nth zs k).natAbs = x at *
        generalize hy : nth zs k = y at *
        clear hx
        go_wp2_with (go_at_call 90; (with_reducible refine cM.mono ?_); rintro e w1 ⟨rfl, hw⟩; rw [hw]; clear hw w1)
        go_roundw
        case rel => exact ⟨k + 1, by omega, by go_num, R6, fun j hj => by rcases Nat.lt_succ_iff_lt_or_eq.1 hj with h | h; (· exact HK.out j h); rw [h, hy]; exact HZ.out⟩
        case measure => simp [intOf]; omega

    · obtain rfl : k = an := by omega
      have t1 : decide ((k : Int) < (k : Int)) = false := by simp
      obtain ⟨q, q1, q2⟩ := HM.out
      exact absurd q2 (K q q1)

set_option maxHeartbeats 4000000 in
set_option maxRecDepth 20000 in
theorem count_bad (so ao : Option Addr) (sn sc an ac : Nat) (zs : List Int) (w : World) (g : Rd w ao an zs) (hn : an ≤ 4096) (hm : ∀ k, k < an → nth zs k ≠ -9223372036854775808) (hF : mayF (absL zs) ≠ 0) :
    Calls Tryz.prog 143 #[.agg #[.slice so sn sc, .slice ao an ac]] w fun e w' => AnsZ w (fun S A => S = [] ∧ A = []) 17 e w' := by
  have U0 := un_startZ w so sn sc ao an ac
  have hmk := fun (X : World) => run_make_row' (P := Tryz.prog) 33 3 (.int .i64 0) 8 Tryz.underlying33 infoI3 rfl .i64 .i64 an (by omega) (by omega) X
  have R0 := Rg.start 3 ((w.alloc (.cells #[.slice so sn sc, .slice ao an ac] 36)).alloc (.cells #[.slice none 0 0, .slice none 0 0] 36)) (w.heap.size + 1 + 1) an (fun j => (((nth zs j).natAbs : Nat) : Int)) (by simp) (by omega)
  obtain ⟨x0, x1, _, _⟩ := box2 U0.x
  have x2 := box2 (R0.bel.block w.heap.size (by omega) |>.trans U0.x)
  have x3 := x2.2.1
  have HL : Hid (zs.length = an) := g.len
  have HNUM : Hid (∀ k, k < an → -9223372036854775808 ≤ nth zs k ∧ nth zs k ≤ 9223372036854775807) := g.num
  have HM : Hid (∀ k, k < an → nth zs k ≠ -9223372036854775808) := hm
  have hcM := fun z (h : Nm.inr z = true) V => nmPres z h V
  clear hm x2
  obtain hF17 : mayF (absL zs) = 17 := (abs_cases zs).resolve_left hF
  have HF : Hid (mayF (absL zs) = 17) := hF17
  clear hF hF17
  go_enter Tryz.func143, Tryz.ntmps143
  go_wp2
  generalize (w.alloc (.cells #[.slice so sn sc, .slice ao an ac] 36)).alloc (.cells #[.slice none 0 0, .slice none 0 0] 36) = U at *
  clear hmk x0 x1 x3
  go_loopw [20] (fun i V => ∃ k : Nat, k ≤ an ∧ i = .int .i64 (k : Nat) ∧ Rg 3 (w.heap.size + 1 + 1) U V an k (fun j => (((nth zs j).natAbs : Nat) : Int))) (fun i _ => an - (intOf i).toNat)
  case atStart => exact ⟨0, Nat.zero_le _, rfl, R0⟩
  case round =>
    obtain ⟨k, hk, rfl, R⟩ := hrel
    clear R0
    have UV := U0.below R.bel (by omega)
    by_cases hlt : k < an
    · have t1 : decide ((k : Int) < (an : Int)) = true := by simp; omega
      have bk : (k : Int) < (an : Int) := by omega
      obtain ⟨b, off, rfl, hb, hc⟩ := (g.below UV.bel (Nat.le_refl _)).cells (by omega)
      have cc := hc k hlt
      have hnum := HNUM.out k hlt
      have hin : Nm.inr (nth zs k) = true := Nm.inr_iff.2 hnum
      have cM := hcM _ hin wr
      obtain ⟨u, c1, f1⟩ := R.slot hlt
      obtain ⟨r0, r1, r2, r3⟩ := box2 UV.r
      clear hc hin
      have ez := HM.out k hlt
      obtain ⟨ec, eo⟩ := cut_abs hnum.1 hnum.2 ez
      rw [ec, eo] at cM
      have R6 := R.set hlt (((nth zs k).natAbs : Nat) : Int) rfl (by omega) (by omega)
      have wz : IntKind.i64.wrap ((((nth zs k).natAbs : Nat) : Int)) = (((nth zs k).natAbs : Nat) : Int) := wrZ (by omega) (by omega)
      have HZ : Hid (nth zs k ≠ -9223372036854775808) := ez
      clear ec eo ez
      generalize hx : (nth zs k).natAbs = x at *
      generalize hy : nth zs k = y at *
      clear hx hy
      go_wp2_with (go_at_call 90; (with_reducible refine cM.mono ?_); rintro e w1 ⟨rfl, hw⟩; rw [hw]; clear hw w1)
      go_roundw
      case rel => exact ⟨k + 1, by omega, by go_num, R6⟩
      case measure => simp [intOf]; omega

    · obtain rfl : k = an := by omega
      have t1 : decide ((k : Int) < (k : Int)) = false := by simp
      have FS := R.all (absL zs) (by rw [absL_len]; exact HL.out) (fun j hj => absL_nth (by rw [HL.out]; exact hj))
      have cF := may_any _ _ k _ _ FS.rd
      rw [HF.out] at cF
      obtain ⟨r0, r1, r2, r3⟩ := box2 UV.r
      have t2 : ((17 : Int) != 0) = true := rfl
      go_wp2_with (go_at_call 40; (with_reducible refine cF.mono ?_); rintro e w1 ⟨rfl, hw⟩; rw [hw]; clear hw w1)
      (try simp only [Exit.inBlock, Exit.then])
      refine bodyPost_ret (v := .tuple #[.agg #[.slice none 0 0, .slice none 0 0], .int .i64 17]) (by rw [results_cell_tmp rfl]; go_simp) rfl ?_
      exact ret17 rfl (below_set2 _ _ _ _ UV.bel (by omega) (Nat.le_refl _))

set_option maxHeartbeats 4000000 in
set_option maxRecDepth 20000 in
theorem count_ok (so ao : Option Addr) (sn sc an ac : Nat) (zs : List Int) (w : World) (g : Rd w ao an zs) (hn : an ≤ 4096) (hm : ∀ k, k < an → nth zs k ≠ -9223372036854775808) (hF : mayF (absL zs) = 0) :
    Calls Tryz.prog 143 #[.agg #[.slice so sn sc, .slice ao an ac]] w fun e w' => AnsZ w (fun S A => S = absL zs ∧ A = cnt zs an) 0 e w' := by
  have U0 := un_startZ w so sn sc ao an ac
  have hmk := fun (X : World) => run_make_row' (P := Tryz.prog) 33 3 (.int .i64 0) 8 Tryz.underlying33 infoI3 rfl .i64 .i64 an (by omega) (by omega) X
  have R0 := Rg.start 3 ((w.alloc (.cells #[.slice so sn sc, .slice ao an ac] 36)).alloc (.cells #[.slice none 0 0, .slice none 0 0] 36)) (w.heap.size + 1 + 1) an (fun j => (((nth zs j).natAbs : Nat) : Int)) (by simp) (by omega)
  obtain ⟨x0, x1, _, _⟩ := box2 U0.x
  have x2 := box2 (R0.bel.block w.heap.size (by omega) |>.trans U0.x)
  have x3 := x2.2.1
  have HL : Hid (zs.length = an) := g.len
  have HNUM : Hid (∀ k, k < an → -9223372036854775808 ≤ nth zs k ∧ nth zs k ≤ 9223372036854775807) := g.num
  have HM : Hid (∀ k, k < an → nth zs k ≠ -9223372036854775808) := hm
  have hcM := fun z (h : Nm.inr z = true) V => nmPres z h V
  clear hm x2
  have HF : Hid (mayF (absL zs) = 0) := hF
  clear hF
  go_enter Tryz.func143, Tryz.ntmps143
  go_wp2
  generalize (w.alloc (.cells #[.slice so sn sc, .slice ao an ac] 36)).alloc (.cells #[.slice none 0 0, .slice none 0 0] 36) = U at *
  clear hmk x0 x1 x3
  go_loopw [20] (fun i V => ∃ k : Nat, k ≤ an ∧ i = .int .i64 (k : Nat) ∧ Rg 3 (w.heap.size + 1 + 1) U V an k (fun j => (((nth zs j).natAbs : Nat) : Int))) (fun i _ => an - (intOf i).toNat)
  case atStart => exact ⟨0, Nat.zero_le _, rfl, R0⟩
  case round =>
    obtain ⟨k, hk, rfl, R⟩ := hrel
    clear R0
    have UV := U0.below R.bel (by omega)
    by_cases hlt : k < an
    · have t1 : decide ((k : Int) < (an : Int)) = true := by simp; omega
      have bk : (k : Int) < (an : Int) := by omega
      obtain ⟨b, off, rfl, hb, hc⟩ := (g.below UV.bel (Nat.le_refl _)).cells (by omega)
      have cc := hc k hlt
      have hnum := HNUM.out k hlt
      have hin : Nm.inr (nth zs k) = true := Nm.inr_iff.2 hnum
      have cM := hcM _ hin wr
      obtain ⟨u, c1, f1⟩ := R.slot hlt
      obtain ⟨r0, r1, r2, r3⟩ := box2 UV.r
      clear hc hin
      have ez := HM.out k hlt
      obtain ⟨ec, eo⟩ := cut_abs hnum.1 hnum.2 ez
      rw [ec, eo] at cM
      have R6 := R.set hlt (((nth zs k).natAbs : Nat) : Int) rfl (by omega) (by omega)
      have wz : IntKind.i64.wrap ((((nth zs k).natAbs : Nat) : Int)) = (((nth zs k).natAbs : Nat) : Int) := wrZ (by omega) (by omega)
      have HZ : Hid (nth zs k ≠ -9223372036854775808) := ez
      clear ec eo ez
      generalize hx : (nth zs k).natAbs = x at *
      generalize hy : nth zs k = y at *
      clear hx hy
      go_wp2_with (go_at_call 90; (with_reducible refine cM.mono ?_); rintro e w1 ⟨rfl, hw⟩; rw [hw]; clear hw w1)
      go_roundw
      case rel => exact ⟨k + 1, by omega, by go_num, R6⟩
      case measure => simp [intOf]; omega

    · obtain rfl : k = an := by omega
      have t1 : decide ((k : Int) < (k : Int)) = false := by simp
      have FS := R.all (absL zs) (by rw [absL_len]; exact HL.out) (fun j hj => absL_nth (by rw [HL.out]; exact hj))
      have cF := may_any _ _ k _ _ FS.rd
      rw [HF.out] at cF
      have sv := UV.sz
      obtain ⟨y0, y1, _, _⟩ := box2 UV.x
      have L0 : Ft 2 (wr.alloc (.cells #[.int .i64 0] 2)) wr.heap.size (some ⟨wr.heap.size, 0, none⟩) 1 1 [0] := ft_new 2 wr [0] (by simp) (by decide)
      have k0 := box_below wr (.cells #[.int .i64 0] 2)
      have FS0 := FS.below k0 (Nat.le_refl _)
      have UW := UV.below k0 sv
      have HZ4 : Hid (∀ j, j < k → cntN zs j ≤ 4096 ∧ (nth zs j).natAbs ≤ 4096 ∧ cntN zs j * (nth zs j).natAbs ≤ 4096 ∧ cntN zs (j + 1) = cntN zs j * (nth zs j).natAbs ∧ cnt zs (j + 1) = blw (nth zs j) (cnt zs j) ∧ ∀ p ∈ cnt zs j, 0 ≤ p ∧ p < ((cntN zs j : Nat) : Int)) := by
        intro j hj
        have hj' : j < zs.length := by rw [HL.out]; exact hj
        refine ⟨cntN_le HF.out (by omega), abs_le HF.out hj', ?_, cntN_succ hj', cnt_succ hj', cnt_mem zs j (by omega)⟩
        rw [← cntN_succ hj']
        exact cntN_le HF.out (by omega)
      obtain ⟨a0, a1, _, _⟩ := box2 UW.x
      generalize hWW : wr.alloc (.cells #[.int .i64 0] 2) = WW at *
      have sW : WW.heap.size = wr.heap.size + 1 := by rw [← hWW]; simp
      go_wp2_with (go_at_call 40; (with_reducible refine cF.mono ?_); rintro e w1 ⟨rfl, hw⟩; rw [hw]; clear hw w1)
      try simp only [hWW]
      generalize hgb : wr.heap.size = gb at *
      clear hWW cF y0 y1 R FS
      go_loopw [10, 48] (fun s i V => ∃ (j : Nat) (oo : Option Addr) (oc : Nat), j ≤ k ∧ i = .int .i64 (j : Nat) ∧ s = .slice oo (cntN zs j) oc ∧ Ft 2 V gb oo (cntN zs j) oc (cnt zs j) ∧ Below WW.heap.size WW V) (fun _ i _ => k - (intOf i).toNat)
      case atStart => exact ⟨0, _, _, Nat.zero_le _, rfl, rfl, L0, Below.refl _ _⟩
      case round =>
        obtain ⟨j, oo, oc, hj, rfl, rfl, fo, Bj⟩ := hrel
        have UX := UW.below Bj (by omega)
        by_cases hlt : j < k
        · have t2 : decide ((j : Int) < (k : Int)) = true := by simp; omega
          have bj : (j : Int) < (k : Int) := by omega
          obtain ⟨b, off, rfl, hb, hc⟩ := (g.below UX.bel (Nat.le_refl _)).cells (by omega)
          have cc := hc j hlt
          obtain ⟨z1, z2, z3, z4, z5, z6⟩ := HZ4.out j hlt
          have cB := belowZ_any oo (cntN zs j) oc (nth zs j) (cnt zs j) wr fo.rd (by omega) (by omega) z3 z6 z1
          rw [← z4, ← z5] at cB
          have sx := Bj.size
          clear hc z1 z2 z3 z4 z5 z6
          generalize nth zs j = y at *
          go_wp2_with (go_at_call 192; (with_reducible refine cB.mono ?_); rintro e w2 ⟨o2, c2, rfl, f2, b2⟩)
          go_roundw
          case rel => exact ⟨j + 1, o2, c2, by omega, by go_num, rfl, f2.mono (by omega), Bj.trans (b2.mono sx)⟩
          case measure => simp [intOf]; omega
        · obtain rfl : j = k := by omega
          have t2 : decide ((j : Int) < (j : Int)) = false := by simp
          obtain ⟨r0, r1, r2, r3⟩ := box2 UX.r
          have FS2 := FS0.below Bj (Nat.le_refl _)
          go_wp2
          (try simp only [Exit.inBlock, Exit.then])
          refine bodyPost_ret (v := .tuple #[.agg #[.slice (some ⟨w.heap.size + 1 + 1, 0, none⟩) j j, .slice oo (cntN zs j) oc], .int .i64 0]) (by rw [results_cell_tmp rfl]; go_simp) rfl ?_
          exact ⟨_, _, _, _, _, _, _, _, rfl, (ft_setZ FS2 (by omega) _ _).mono (by omega), (ft_setZ fo (by omega) _ _).mono (by omega), ⟨rfl, rfl⟩, below_set2 _ _ _ _ UX.bel (by omega) (Nat.le_refl _)⟩
end Go.Proofs.YtelcagfaflpolaaGreat
