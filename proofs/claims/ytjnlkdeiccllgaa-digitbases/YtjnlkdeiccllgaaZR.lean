
/- DigitBases: the law itself. -/

import Derived.Test.YtjnlkdeiccllgaaZQ
import Derived.Deep.DeepCutAuto


namespace Go.Proofs.Ytjnlkdeiccllgaa

open Go.RowKit

set_option linter.unusedVariables false

theorem bq_set {V : World} {B gb : Nat} {o1 : Option Addr} {n1 c1 : Nat} {o2 : Option Addr} {n2 c2 : Nat} {S A : List Int} (h1 : Ft 3 V B o1 n1 c1 S) (h2 : Ft 2 V B o2 n2 c2 A) (hb : gb < B) (hz : V.heap[gb]? = some (.cells #[.slice none 0 0, .slice none 0 0] 26 (0, 0))) : Bq ((V.setCell ⟨gb, 0, none⟩ (.slice o1 n1 c1)).setCell ⟨gb, 1, none⟩ (.slice o2 n2 c2)) gb o1 n1 c1 o2 n2 c2 S A := by
  have a1 := heap_setCell_same V gb 0 _ 26 (.slice o1 n1 c1) hz
  have a2 := heap_setCell_same _ gb 1 _ 26 (.slice o2 n2 c2) a1
  exact ⟨by simpa using a2, (ft_setQ h1 hb _ _).rd, (ft_setQ h2 hb _ _).rd⟩
theorem Bq.lt {V : World} {b : Nat} {o1 : Option Addr} {n1 c1 : Nat} {o2 : Option Addr} {n2 c2 : Nat} {S A : List Int} (h : Bq V b o1 n1 c1 o2 n2 c2 S A) : b < V.heap.size := (Array.getElem?_eq_some_iff.1 h.box).1

set_option maxHeartbeats 8000000 in
set_option maxRecDepth 20000 in
theorem bases_long (ao : Option Addr) (n c : Nat) (xs : List Int) (z : Int) (w : World) (h : Rd w ao n xs) (hs : Sl ao n c) (z1 : -9223372036854775808 ≤ z) (z2 : z ≤ 9223372036854775807) (hn : 4095 < n) :
    Calls Try.prog 5 #[.slice ao n c, .int .i64 z] w fun e w' => e = .returned (.bool true) ∧ Below w.heap.size w w' := by
  have cG := begun8_any w
  have t1 : decide (4095 < n) = true := by simpa using hn
  have t2 : (4095 : Int) < (n : Int) := by omega
  go_enter Try.func5, Try.ntmps5
  go_wp2_with (go_at_call 7; (with_reducible refine cG.mono ?_); rintro e w1 ⟨rfl, k1⟩)
  go_ret
  exact ⟨rfl, k1⟩

set_option maxHeartbeats 8000000 in
set_option maxRecDepth 20000 in
theorem bases_bad (ao : Option Addr) (n c : Nat) (xs : List Int) (z : Int) (w : World) (h : Rd w ao n xs) (hs : Sl ao n c) (z1 : -9223372036854775808 ≤ z) (z2 : z ≤ 9223372036854775807) (hn : n ≤ 4095) (hbad : ∃ k, k < 1 + n ∧ tbO ([0] ++ xs) z k ≠ 0) :
    Calls Try.prog 5 #[.slice ao n c, .int .i64 z] w fun e w' => e = .returned (.bool true) ∧ Below w.heap.size w w' := by
  have hleast : ∃ k, k < n ∧ nth xs k = -1 := by
    obtain ⟨k, k1, k2⟩ := hbad
    have e := dvE_bad (inr_tbV (Nm.inr_iff.2 ⟨z1, z2⟩) _) k2
    cases k with
    | zero => have h0 : nth ([0] ++ xs) 0 = 0 := rfl
              rw [h0] at e; cases e
    | succ k => exact ⟨k, by omega, by rw [← nth_zero_cons xs k]; exact e⟩
  have HY : Hid (lst xs n = true) := by obtain ⟨k, k1, k2⟩ := hleast; exact lst_yes k1 (by rw [h.len]; exact Nat.le_refl _) k2
  have cG := begun8_any w
  have t1 : decide (4095 < n) = false := by simp; omega
  have t2 : ¬ (4095 : Int) < (n : Int) := by omega
  have HL : Hid (xs.length = n) := h.len
  have lbs : ([0] ++ xs).length = 1 + n := by rw [List.length_append, HL.out]; rfl
  have c40 : ∀ V o1 c1 o2 c2 o4 c4, Rd V (some o1) 1 [((1 + n : Nat) : Int)] → Sl (some o1) 1 c1 → Rd V o2 (1 + n) ([0] ++ xs) → Rd V o4 1 [z] → Calls Try.prog 12 #[.int .i64 40, .agg #[.slice (some o1) 1 c1, .slice o2 (1 + n) c2], .agg #[.slice none 0 0, .slice o4 1 c4]] V fun e w' => AnsQ V (fun S A => S = [] ∧ A = []) 14 e w' := fun V o1 c1 o2 c2 o4 c4 h1 h2 h3 h4 =>
    dyadZ_40 (some o1) o2 none o4 1 c1 (1 + n) c2 0 0 1 c4 [((1 + n : Nat) : Int)] ([0] ++ xs) [] [z] _ 14 V h1 h3 (Rd.nil V) h4 (mayA_list (by omega) lbs) (mayA_sc z) (by omega) (by omega) (fun U k => toBase_bad (some o1) o2 none o4 1 c1 (1 + n) c2 0 0 1 c4 [((1 + n : Nat) : Int)] ([0] ++ xs) [z] z U (h1.below k (Nat.le_refl _)) h2 (by omega) (h3.below k (Nat.le_refl _)) (by omega) (h4.below k (Nat.le_refl _)) (by omega) rfl hbad)
  have sz1 := fun V => scalar8_any z V z1 z2
  clear hleast hbad
  go_enter Try.func5, Try.ntmps5
  go_upto_region 9 with (first
    | (go_at_call 7; (with_reducible refine cG.mono ?_); rintro e w1 ⟨rfl, k1⟩; have L1 : Ft 2 (w1.alloc (.cells #[.int .i64 0] 2)) w1.heap.size (some ⟨w1.heap.size, 0, none⟩) 1 1 [0] := ft_new 2 w1 [0] (by simp) (by decide); have X1 := (h.below k1 (Nat.le_refl _)).below (box_below w1 (.cells #[.int .i64 0] 2)) (Nat.le_refl _))
    | (at_builtin; refine wpList_joinT tyL rfl _ _ rfl w1.heap.size (some ⟨w1.heap.size, 0, none⟩) ao 1 1 n c [0] xs rfl rfl L1 X1 hs (by omega) (by simp) ?_; intro co3 c3 w3 f3 b3; have k3 : Below w1.heap.size w1 w3 := (box_below w1 _).trans b3; have cL := list8_any co3 (1 + n) c3 _ w3 f3.rd f3.sl (by omega))
    | (go_at_call 9; (with_reducible refine cL.mono ?_); rintro e w4 ⟨o1, c1, o2, c2, rfl, fs, fa, k4⟩)
    | (go_at_call 11; (with_reducible refine (sz1 w4).mono ?_); rintro e w5 ⟨o4, c4, rfl, f4, k5⟩; have c41 := c40 w5 o1 c1 o2 c2 o4 c4 (fs.rd.below k5 (Nat.le_refl _)) fs.sl (fa.rd.below k5 (Nat.le_refl _)) f4.rd)
    | (go_at_call 12; (with_reducible refine c41.mono ?_); rintro e w6 ⟨pD, nD, cD, qD, mD, dD, S6, A6, rfl, f6, g6, ⟨rfl, rfl⟩, k6⟩))
  have k36 : Below w3.heap.size w3 w6 := (k4.trans (k5.mono k4.size)).trans (k6.mono (Nat.le_trans k4.size k5.size))
  have k16 : Below w1.heap.size w1 w6 := k3.trans (k36.mono k3.size)
  have k06 : Below w.heap.size w w6 := k1.trans (k16.mono k1.size)
  have kb6 := box_below w6 (.cells #[.slice pD nD cD, .slice qD mD dD] 26)
  have BX := bq_new (c1 := cD) (c2 := dD) f6.rd g6.rd
  have RB := ((f3.rd.below k36 (Nat.le_refl _)).below kb6 (Nat.le_refl _))
  have SB := f3.sl
  have K := k06.trans (kb6.mono k06.size)
  have RX := h.below K (Nat.le_refl _)
  have gm := g6.rd.len
  clear c40 sz1 cG
  obtain rfl : mD = 0 := by rw [← gm]; rfl
  generalize hW7 : w6.alloc (.cells #[.slice pD nD cD, .slice qD 0 dD] 26) = W7 at *
  clear hW7 c41 cL L1 X1 f3 fs fa f4 f6 g6 gm k1 k3 k4 k5 k6 k36 k16 k06 kb6 b3 RB SB
  obtain ⟨q0, q1⟩ := BX.c
  go_wp2
  go_loopw [8, 9] (fun s i V => ∃ k : Nat, k ≤ n ∧ i = .int .i64 (k : Nat) ∧ s = .bool (lst xs k) ∧ V = W7) (fun _ i _ => n - (intOf i).toNat)
  case atStart => exact ⟨0, Nat.zero_le _, rfl, rfl, rfl⟩
  case round =>
    obtain ⟨k, hk, rfl, rfl, rfl⟩ := hrel
    by_cases hlt : k < n
    · have t5 : decide ((k : Int) < (n : Int)) = true := by simp; omega
      have bk : (k : Int) < (n : Int) := by omega
      obtain ⟨b, off, rfl, hb, hc⟩ := RX.cells (by omega)
      have c1 := hc k hlt
      have hsu : lst xs (k + 1) = (lst xs k || (nth xs k == -1)) := lst_succ (by rw [HL.out]; exact hlt)
      clear hc
      cases hl : lst xs k
      · rw [hl, Bool.false_or] at hsu
        have HS : Hid (lst xs (k + 1) = (nth xs k == -1)) := hsu
        clear hsu hl
        generalize nth xs k = x at *
        go_wp2
        go_roundw
        case rel => exact ⟨k + 1, by omega, by go_num, by rw [HS.out], (by first | trivial | rfl)⟩
        case measure => simp [intOf]; omega
      · rw [hl, Bool.true_or] at hsu
        have HS : Hid (lst xs (k + 1) = true) := hsu
        clear hsu hl
        generalize nth xs k = x at *
        go_wp2
        go_roundw
        case rel => exact ⟨k + 1, by omega, by go_num, by rw [HS.out], (by first | trivial | rfl)⟩
        case measure => simp [intOf]; omega
    · obtain rfl : k = n := by omega
      have t5 : decide ((k : Int) < (k : Int)) = false := by simp
      rw [HY.out]
      go_wp2
      go_ret
      exact ⟨rfl, K⟩

set_option maxHeartbeats 8000000 in
set_option maxRecDepth 20000 in
theorem bases_over (ao : Option Addr) (n c : Nat) (xs : List Int) (z : Int) (w : World) (h : Rd w ao n xs) (hs : Sl ao n c) (z1 : -9223372036854775808 ≤ z) (z2 : z ≤ 9223372036854775807) (hn : n ≤ 4095) (hok : ∀ k, k < 1 + n → tbO ([0] ++ xs) z k = 0) (hfb : fbR ([0] ++ xs) ((List.range (1 + n)).map (tbD ([0] ++ xs) z)) (1 + n) = none) :
    Calls Try.prog 5 #[.slice ao n c, .int .i64 z] w fun e w' => e = .returned (.bool true) ∧ Below w.heap.size w w' := by
  have cG := begun8_any w
  have t1 : decide (4095 < n) = false := by simp; omega
  have t2 : ¬ (4095 : Int) < (n : Int) := by omega
  have HL : Hid (xs.length = n) := h.len
  have lbs : ([0] ++ xs).length = 1 + n := by rw [List.length_append, HL.out]; rfl
  have c40 : ∀ V o1 c1 o2 c2 o4 c4, Rd V (some o1) 1 [((1 + n : Nat) : Int)] → Sl (some o1) 1 c1 → Rd V o2 (1 + n) ([0] ++ xs) → Rd V o4 1 [z] → Calls Try.prog 12 #[.int .i64 40, .agg #[.slice (some o1) 1 c1, .slice o2 (1 + n) c2], .agg #[.slice none 0 0, .slice o4 1 c4]] V fun e w' => AnsQ V (fun S A => S = [((1 + n : Nat) : Int)] ∧ A = (List.range (1 + n)).map (tbD ([0] ++ xs) z)) 0 e w' := fun V o1 c1 o2 c2 o4 c4 h1 h2 h3 h4 =>
    dyadZ_40 (some o1) o2 none o4 1 c1 (1 + n) c2 0 0 1 c4 [((1 + n : Nat) : Int)] ([0] ++ xs) [] [z] _ 0 V h1 h3 (Rd.nil V) h4 (mayA_list (by omega) lbs) (mayA_sc z) (by omega) (by omega) (fun U k => toBase_ok (some o1) o2 none o4 1 c1 (1 + n) c2 0 0 1 c4 [((1 + n : Nat) : Int)] ([0] ++ xs) [z] z U (h1.below k (Nat.le_refl _)) h2 (by omega) (h3.below k (Nat.le_refl _)) (by omega) (h4.below k (Nat.le_refl _)) (by omega) rfl hok)
  have sz1 := fun V => scalar8_any z V z1 z2
  have lds : ((List.range (1 + n)).map (tbD ([0] ++ xs) z)).length = 1 + n := by simp
  have HD : Hid (∀ k, k < n → (0 < nth xs k → 0 ≤ tbD ([0] ++ xs) z (k + 1) ∧ tbD ([0] ++ xs) z (k + 1) < nth xs k) ∧ (nth xs k < 0 → tbD ([0] ++ xs) z (k + 1) ≤ 0 ∧ nth xs k < tbD ([0] ++ xs) z (k + 1)) ∧ nth ((List.range (1 + n)).map (tbD ([0] ++ xs) z)) (k + 1) = tbD ([0] ++ xs) z (k + 1) ∧ nth ([0] ++ xs) (k + 1) = nth xs k) := fun k hk => by
    have e1 : nth ([0] ++ xs) (k + 1) = nth xs k := nth_zero_cons xs k
    have d := dig_bd (r := tbV ([0] ++ xs) z (k + 1 + 1)) (b := nth ([0] ++ xs) (k + 1))
    rw [e1] at d
    refine ⟨?_, ?_, map_nth _ (by omega), e1⟩
    · intro hp; unfold tbD; rw [e1]; exact d.1 hp
    · intro hp; unfold tbD; rw [e1]; exact d.2 hp
  have c39 : ∀ V o1 c1 o2 c2 o3 n3 c3 o4 c4, Rd V (some o1) 1 [((1 + n : Nat) : Int)] → Rd V o2 (1 + n) ([0] ++ xs) → Sl o2 (1 + n) c2 → Rd V o3 n3 [((1 + n : Nat) : Int)] → Rd V o4 (1 + n) ((List.range (1 + n)).map (tbD ([0] ++ xs) z)) → Sl o4 (1 + n) c4 → Calls Try.prog 12 #[.int .i64 39, .agg #[.slice (some o1) 1 c1, .slice o2 (1 + n) c2], .agg #[.slice o3 n3 c3, .slice o4 (1 + n) c4]] V fun e w' => AnsQ V (fun S A => S = [] ∧ A = []) 14 e w' := fun V o1 c1 o2 c2 o3 n3 c3 o4 c4 h1 h2 h3 h4 h5 h6 =>
    dyadZ_39 (some o1) o2 o3 o4 1 c1 (1 + n) c2 n3 c3 (1 + n) c4 [((1 + n : Nat) : Int)] ([0] ++ xs) [((1 + n : Nat) : Int)] ((List.range (1 + n)).map (tbD ([0] ++ xs) z)) _ 14 V h1 h2 h4 h5 (mayA_list (by omega) lbs) (mayA_list (by omega) lds) (by omega) (by have := h4.len; simp at this; omega) (fun U k => (fromBase_any (some o1) o2 o3 o4 1 c1 (1 + n) c2 n3 c3 (1 + n) c4 [((1 + n : Nat) : Int)] ([0] ++ xs) [((1 + n : Nat) : Int)] ((List.range (1 + n)).map (tbD ([0] ++ xs) z)) U (h1.below k (Nat.le_refl _)) (h2.below k (Nat.le_refl _)) h3 (h4.below k (Nat.le_refl _)) (h5.below k (Nat.le_refl _)) h6 (mayA_list (by omega) lbs) (mayA_list (by omega) lds) (.inr (.inr (by rw [lbs, lds])))).mono fun e w' hh => by
      have ef : fbR (takL [((1 + n : Nat) : Int)] ([0] ++ xs) ((List.range (1 + n)).map (tbD ([0] ++ xs) z)).length) (takL [((1 + n : Nat) : Int)] ((List.range (1 + n)).map (tbD ([0] ++ xs) z)) ([0] ++ xs).length) (fbN [((1 + n : Nat) : Int)] [((1 + n : Nat) : Int)] ([0] ++ xs) ((List.range (1 + n)).map (tbD ([0] ++ xs) z))) = none := by
        have a1 : ∀ (u : List Int) m, takL [((1 + n : Nat) : Int)] u m = u := fun u m => if_neg (by simp)
        unfold fbN
        rw [a1, a1, lbs]
        exact hfb
      rw [ef] at hh
      exact hh)
  clear hok hfb
  go_enter Try.func5, Try.ntmps5
  go_upto_region 14 with (first
    | (go_at_call 7; (with_reducible refine cG.mono ?_); rintro e w1 ⟨rfl, k1⟩; have L1 : Ft 2 (w1.alloc (.cells #[.int .i64 0] 2)) w1.heap.size (some ⟨w1.heap.size, 0, none⟩) 1 1 [0] := ft_new 2 w1 [0] (by simp) (by decide); have X1 := (h.below k1 (Nat.le_refl _)).below (box_below w1 (.cells #[.int .i64 0] 2)) (Nat.le_refl _))
    | (at_builtin; refine wpList_joinT tyL rfl _ _ rfl w1.heap.size (some ⟨w1.heap.size, 0, none⟩) ao 1 1 n c [0] xs rfl rfl L1 X1 hs (by omega) (by simp) ?_; intro co3 c3 w3 f3 b3; have k3 : Below w1.heap.size w1 w3 := (box_below w1 _).trans b3; have cL := list8_any co3 (1 + n) c3 _ w3 f3.rd f3.sl (by omega))
    | (go_at_call 9; (with_reducible refine cL.mono ?_); rintro e w4 ⟨o1, c1, o2, c2, rfl, fs, fa, k4⟩)
    | (go_at_call 11; (with_reducible refine (sz1 w4).mono ?_); rintro e w5 ⟨o4, c4, rfl, f4, k5⟩; have c41 := c40 w5 o1 c1 o2 c2 o4 c4 (fs.rd.below k5 (Nat.le_refl _)) fs.sl (fa.rd.below k5 (Nat.le_refl _)) f4.rd)
    | (go_at_call 12; (with_reducible refine c41.mono ?_); rintro e w6 ⟨pD, nD, cD, qD, mD, dD, S6, A6, rfl, f6, g6, ⟨rfl, rfl⟩, k6⟩))
  have k36 : Below w3.heap.size w3 w6 := (k4.trans (k5.mono k4.size)).trans (k6.mono (Nat.le_trans k4.size k5.size))
  have k16 : Below w1.heap.size w1 w6 := k3.trans (k36.mono k3.size)
  have k06 : Below w.heap.size w w6 := k1.trans (k16.mono k1.size)
  have kb6 := box_below w6 (.cells #[.slice pD nD cD, .slice qD mD dD] 26)
  have BX := bq_new (c1 := cD) (c2 := dD) f6.rd g6.rd
  have RB := ((f3.rd.below k36 (Nat.le_refl _)).below kb6 (Nat.le_refl _))
  have SB := f3.sl
  have K := k06.trans (kb6.mono k06.size)
  have RX := h.below K (Nat.le_refl _)
  have gm := g6.rd.len
  obtain rfl : mD = 1 + n := by rw [← gm]; exact lds
  generalize hDS : (List.range (1 + n)).map (tbD ([0] ++ xs) z) = DS at *
  have LD := g6.sl
  have sW : w6.heap.size + 1 = (w6.alloc (.cells #[.slice pD nD cD, .slice qD (1 + n) dD] 26)).heap.size := by simp
  generalize hW7 : w6.alloc (.cells #[.slice pD nD cD, .slice qD (1 + n) dD] 26) = W7 at *
  generalize w6.heap.size = gD at *
  clear hW7 c41 cL L1 X1 f3 fs fa f4 f6 g6 gm k1 k3 k4 k5 k6 k36 k16 k06 kb6 b3 c40
  obtain ⟨q0, q1⟩ := BX.c
  have tn : ((1 + n) != (1 + n)) = false := by simp
  go_wp2
  go_loopw [10] (fun i V => ∃ k : Nat, k ≤ n ∧ i = .int .i64 ((k : Int) + 1) ∧ V = W7) (fun i _ => n + 1 - (intOf i).toNat)
  case atStart => exact ⟨0, Nat.zero_le _, rfl, rfl⟩
  case round =>
    obtain ⟨k, hk, rfl, rfl⟩ := hrel
    by_cases hlt : k < n
    · have t5 : decide ((k : Int) + 1 < ((1 + n : Nat) : Int)) = true := by simp; omega
      have t5b : decide ((k : Int) + 1 < 1 + (n : Int)) = true := by simp; omega
      have bk : (k : Int) + 1 < 1 + (n : Int) := by omega
      have wk : IntKind.i64.wrap ((k : Int) + 1 + 1) = (k : Int) + 1 + 1 := wrZ (by omega) (by omega)
      obtain ⟨b, off, rfl, hb, hc⟩ := RB.cells (by omega)
      obtain ⟨b', off', rfl, hb', hc'⟩ := BX.a.cells (by omega)
      have c1 := hc (k + 1) (by omega)
      have c2 := hc' (k + 1) (by omega)
      obtain ⟨d1, d2, d3, d4⟩ := HD.out k hlt
      rw [d3] at c2
      rw [d4] at c1
      clear hc hc' d3 d4
      generalize nth xs k = x at *
      generalize tbD ([0] ++ xs) z (k + 1) = D at *
      rcases Int.lt_trichotomy x 0 with hx | hx | hx
      · obtain ⟨e1, e2⟩ := d2 hx
        have u1 : decide (0 < x) = false := by simp; omega
        have u2 : decide (x < 0) = true := by simpa using hx
        have u3 : decide (0 < D) = false := by simp; omega
        have u4 : decide (D ≤ x) = false := by simp; omega
        clear d1 d2 hx e1 e2
        go_wp2
        go_roundw
        case rel => exact ⟨k + 1, by omega, by go_num, (by first | trivial | rfl)⟩
        case measure => simp [intOf]; omega
      · have u1 : decide (0 < x) = false := by simp; omega
        have u2 : decide (x < 0) = false := by simp; omega
        clear d1 d2 hx
        go_wp2
        go_roundw
        case rel => exact ⟨k + 1, by omega, by go_num, (by first | trivial | rfl)⟩
        case measure => simp [intOf]; omega
      · obtain ⟨e1, e2⟩ := d1 hx
        have u1 : decide (0 < x) = true := by simpa using hx
        have u2 : decide (x < 0) = false := by simp; omega
        have u3 : decide (D < 0) = false := by simp; omega
        have u4 : decide (x ≤ D) = false := by simp; omega
        clear d1 d2 hx e1 e2
        go_wp2
        go_roundw
        case rel => exact ⟨k + 1, by omega, by go_num, (by first | trivial | rfl)⟩
        case measure => simp [intOf]; omega
    · obtain rfl : k = n := by omega
      have t5 : decide ((k : Int) + 1 < ((1 + k : Nat) : Int)) = false := by simp; omega
      have t5b : decide ((k : Int) + 1 < 1 + (k : Int)) = false := by simp; omega
      go_wp2
      have LB := BX.lt
      have ALLS : ∀ V, Below wr.heap.size wr V → V.cell? ⟨gD, 0, none⟩ = some (.slice pD nD cD) ∧ V.cell? ⟨gD, 1, none⟩ = some (.slice qD (1 + k) dD) ∧ Below wr.heap.size wr V := fun V j => ⟨(BX.below j).c.1, (BX.below j).c.2, j⟩
      have cL := fun V (j : Below wr.heap.size wr V) => list8_any co3 (1 + k) c3 ([0] ++ xs) V (RB.below j (Nat.le_refl _)) SB (by omega)
      go_cut [12, 13] from 114 to 122 (fun s12 s13 V => ∃ gA oA nA cA pA mA dA, s12 = .pointer (some ⟨gA, 0, none⟩) ∧ s13 = .int .i64 14 ∧ Bq V gA oA nA cA pA mA dA [] [] ∧ Below wr.heap.size wr V)
      case first =>
        go_region_held3 (fun V => V.cell? ⟨gD, 0, none⟩ = some (.slice pD nD cD) ∧ V.cell? ⟨gD, 1, none⟩ = some (.slice qD (1 + k) dD) ∧ Below wr.heap.size wr V) (first | exact ALLS _ (by assumption) | exact ALLS _ (Below.refl _ _).drew | exact ALLS _ (box_below wr _).drew | exact ALLS _ (G1.alloc G1.size _) | exact ALLS _ (G2.alloc G2.size _) | exact ALLS _ (below_set2 _ _ _ _ G2 (by first | exact Nat.le_refl _ | exact G1.size | exact G2.size) (Nat.le_refl _)))
          (first
            | (go_at_call 9; (with_reducible refine (cL (wr.alloc (.cells #[.slice none 0 0, .slice none 0 0] 26)).drew (box_below wr _).drew).mono ?_); rintro e v1 ⟨y1, y2, y3, y4, rfl, fs, fa, j1⟩; have G1 : Below wr.heap.size wr v1 := (box_below wr _).drew.trans (j1.mono (by simp)); have zz1 := (j1.block wr.heap.size (by simp)).trans (allocNew wr (.cells #[.slice none 0 0, .slice none 0 0] 26)))
            | (go_at_call 9; (with_reducible refine (cL wr.drew (Below.refl _ _).drew).mono ?_); rintro e v1 ⟨y1, y2, y3, y4, rfl, fs, fa, j1⟩; have G1 : Below wr.heap.size wr v1 := (Below.refl _ wr).drew.trans j1)
            | (go_at_call 12; (with_reducible refine (c39 v1 _ _ _ _ _ _ _ _ _ fs.rd fa.rd fa.sl (BX.below G1).s (BX.below G1).a LD).mono ?_); rintro e v2 ⟨oA, nA, cA, pA, mA, dA, S9, A9, rfl, f1, f2, ⟨rfl, rfl⟩, j2⟩; have G2 := G1.trans (j2.mono G1.size); (try (have zz2 := (j2.block _ (Array.getElem?_eq_some_iff.1 zz1).1).trans zz1; obtain ⟨w0, w1', w2', w3'⟩ := box2 zz2)))
            | (go_at_call 12; (with_reducible refine (c39 (v1.alloc (.cells #[.slice none 0 0, .slice none 0 0] 26)) _ _ _ _ _ _ _ _ _ (fs.rd.below (box_below v1 _) (Nat.le_refl _)) (fa.rd.below (box_below v1 _) (Nat.le_refl _)) fa.sl (BX.below (G1.alloc G1.size _)).s (BX.below (G1.alloc G1.size _)).a LD).mono ?_); rintro e v2 ⟨oA, nA, cA, pA, mA, dA, S9, A9, rfl, f1, f2, ⟨rfl, rfl⟩, j2⟩; have G2 := (G1.alloc G1.size (.cells #[.slice none 0 0, .slice none 0 0] 26)).trans (j2.mono (G1.alloc G1.size (.cells #[.slice none 0 0, .slice none 0 0] 26)).size); have zz2 := (j2.block v1.heap.size (by simp)).trans (allocNew v1 (.cells #[.slice none 0 0, .slice none 0 0] 26)); obtain ⟨w0, w1', w2', w3'⟩ := box2 zz2))
        all_goals
          go_wp2
          go_meet
          case rel =>
            have gs1 := G1.size
            have gs2 := G2.size
            first
              | exact ⟨_, _, _, _, _, _, _, rfl, rfl, bq_new f1.rd f2.rd, G2.alloc gs2 _⟩
              | exact ⟨_, _, _, _, _, _, _, rfl, rfl, bq_set f1 f2 (by have := j1.size; have := j2.size; simp at *; try omega) zz2, below_set2 _ _ _ _ G2 (by omega) (Nat.le_refl _)⟩
      case rest =>
        obtain ⟨gA, oA, nA, cA, pA, mA, dA, rfl, rfl, BA, GA⟩ := hcut
        have K2 := K.trans (GA.mono K.size)
        go_wp2
        go_ret
        exact ⟨rfl, K2⟩

set_option maxHeartbeats 8000000 in
set_option maxRecDepth 20000 in
theorem bases_zero (ao : Option Addr) (n c : Nat) (xs : List Int) (z : Int) (w : World) (h : Rd w ao n xs) (hs : Sl ao n c) (z1 : -9223372036854775808 ≤ z) (z2 : z ≤ 9223372036854775807) (hn : n ≤ 4095) (hok : ∀ k, k < 1 + n → tbO ([0] ++ xs) z k = 0) (r : Int) (hfb : fbR ([0] ++ xs) ((List.range (1 + n)).map (tbD ([0] ++ xs) z)) (1 + n) = some r) (hz : ∃ k, k < n ∧ nth xs k = 0) :
    Calls Try.prog 5 #[.slice ao n c, .int .i64 z] w fun e w' => e = .returned (.bool true) ∧ Below w.heap.size w w' := by
  have HZ : Hid (∃ k, k < n ∧ nth xs k = 0) := hz
  clear hz
  have cG := begun8_any w
  have t1 : decide (4095 < n) = false := by simp; omega
  have t2 : ¬ (4095 : Int) < (n : Int) := by omega
  have HL : Hid (xs.length = n) := h.len
  have lbs : ([0] ++ xs).length = 1 + n := by rw [List.length_append, HL.out]; rfl
  have c40 : ∀ V o1 c1 o2 c2 o4 c4, Rd V (some o1) 1 [((1 + n : Nat) : Int)] → Sl (some o1) 1 c1 → Rd V o2 (1 + n) ([0] ++ xs) → Rd V o4 1 [z] → Calls Try.prog 12 #[.int .i64 40, .agg #[.slice (some o1) 1 c1, .slice o2 (1 + n) c2], .agg #[.slice none 0 0, .slice o4 1 c4]] V fun e w' => AnsQ V (fun S A => S = [((1 + n : Nat) : Int)] ∧ A = (List.range (1 + n)).map (tbD ([0] ++ xs) z)) 0 e w' := fun V o1 c1 o2 c2 o4 c4 h1 h2 h3 h4 =>
    dyadZ_40 (some o1) o2 none o4 1 c1 (1 + n) c2 0 0 1 c4 [((1 + n : Nat) : Int)] ([0] ++ xs) [] [z] _ 0 V h1 h3 (Rd.nil V) h4 (mayA_list (by omega) lbs) (mayA_sc z) (by omega) (by omega) (fun U k => toBase_ok (some o1) o2 none o4 1 c1 (1 + n) c2 0 0 1 c4 [((1 + n : Nat) : Int)] ([0] ++ xs) [z] z U (h1.below k (Nat.le_refl _)) h2 (by omega) (h3.below k (Nat.le_refl _)) (by omega) (h4.below k (Nat.le_refl _)) (by omega) rfl hok)
  have sz1 := fun V => scalar8_any z V z1 z2
  have lds : ((List.range (1 + n)).map (tbD ([0] ++ xs) z)).length = 1 + n := by simp
  have HD : Hid (∀ k, k < n → (0 < nth xs k → 0 ≤ tbD ([0] ++ xs) z (k + 1) ∧ tbD ([0] ++ xs) z (k + 1) < nth xs k) ∧ (nth xs k < 0 → tbD ([0] ++ xs) z (k + 1) ≤ 0 ∧ nth xs k < tbD ([0] ++ xs) z (k + 1)) ∧ nth ((List.range (1 + n)).map (tbD ([0] ++ xs) z)) (k + 1) = tbD ([0] ++ xs) z (k + 1) ∧ nth ([0] ++ xs) (k + 1) = nth xs k) := fun k hk => by
    have e1 : nth ([0] ++ xs) (k + 1) = nth xs k := nth_zero_cons xs k
    have d := dig_bd (r := tbV ([0] ++ xs) z (k + 1 + 1)) (b := nth ([0] ++ xs) (k + 1))
    rw [e1] at d
    refine ⟨?_, ?_, map_nth _ (by omega), e1⟩
    · intro hp; unfold tbD; rw [e1]; exact d.1 hp
    · intro hp; unfold tbD; rw [e1]; exact d.2 hp
  have c39 : ∀ V o1 c1 o2 c2 o3 n3 c3 o4 c4, Rd V (some o1) 1 [((1 + n : Nat) : Int)] → Rd V o2 (1 + n) ([0] ++ xs) → Sl o2 (1 + n) c2 → Rd V o3 n3 [((1 + n : Nat) : Int)] → Rd V o4 (1 + n) ((List.range (1 + n)).map (tbD ([0] ++ xs) z)) → Sl o4 (1 + n) c4 → Calls Try.prog 12 #[.int .i64 39, .agg #[.slice (some o1) 1 c1, .slice o2 (1 + n) c2], .agg #[.slice o3 n3 c3, .slice o4 (1 + n) c4]] V fun e w' => AnsQ V (fun S A => S = [] ∧ A = [r]) 0 e w' := fun V o1 c1 o2 c2 o3 n3 c3 o4 c4 h1 h2 h3 h4 h5 h6 =>
    dyadZ_39 (some o1) o2 o3 o4 1 c1 (1 + n) c2 n3 c3 (1 + n) c4 [((1 + n : Nat) : Int)] ([0] ++ xs) [((1 + n : Nat) : Int)] ((List.range (1 + n)).map (tbD ([0] ++ xs) z)) _ 0 V h1 h2 h4 h5 (mayA_list (by omega) lbs) (mayA_list (by omega) lds) (by omega) (by have := h4.len; simp at this; omega) (fun U k => (fromBase_any (some o1) o2 o3 o4 1 c1 (1 + n) c2 n3 c3 (1 + n) c4 [((1 + n : Nat) : Int)] ([0] ++ xs) [((1 + n : Nat) : Int)] ((List.range (1 + n)).map (tbD ([0] ++ xs) z)) U (h1.below k (Nat.le_refl _)) (h2.below k (Nat.le_refl _)) h3 (h4.below k (Nat.le_refl _)) (h5.below k (Nat.le_refl _)) h6 (mayA_list (by omega) lbs) (mayA_list (by omega) lds) (.inr (.inr (by rw [lbs, lds])))).mono fun e w' hh => by
      have ef : fbR (takL [((1 + n : Nat) : Int)] ([0] ++ xs) ((List.range (1 + n)).map (tbD ([0] ++ xs) z)).length) (takL [((1 + n : Nat) : Int)] ((List.range (1 + n)).map (tbD ([0] ++ xs) z)) ([0] ++ xs).length) (fbN [((1 + n : Nat) : Int)] [((1 + n : Nat) : Int)] ([0] ++ xs) ((List.range (1 + n)).map (tbD ([0] ++ xs) z))) = some r := by
        have a1 : ∀ (u : List Int) m, takL [((1 + n : Nat) : Int)] u m = u := fun u m => if_neg (by simp)
        unfold fbN
        rw [a1, a1, lbs]
        exact hfb
      rw [ef] at hh
      exact hh)
  clear hok hfb
  go_enter Try.func5, Try.ntmps5
  go_upto_region 14 with (first
    | (go_at_call 7; (with_reducible refine cG.mono ?_); rintro e w1 ⟨rfl, k1⟩; have L1 : Ft 2 (w1.alloc (.cells #[.int .i64 0] 2)) w1.heap.size (some ⟨w1.heap.size, 0, none⟩) 1 1 [0] := ft_new 2 w1 [0] (by simp) (by decide); have X1 := (h.below k1 (Nat.le_refl _)).below (box_below w1 (.cells #[.int .i64 0] 2)) (Nat.le_refl _))
    | (at_builtin; refine wpList_joinT tyL rfl _ _ rfl w1.heap.size (some ⟨w1.heap.size, 0, none⟩) ao 1 1 n c [0] xs rfl rfl L1 X1 hs (by omega) (by simp) ?_; intro co3 c3 w3 f3 b3; have k3 : Below w1.heap.size w1 w3 := (box_below w1 _).trans b3; have cL := list8_any co3 (1 + n) c3 _ w3 f3.rd f3.sl (by omega))
    | (go_at_call 9; (with_reducible refine cL.mono ?_); rintro e w4 ⟨o1, c1, o2, c2, rfl, fs, fa, k4⟩)
    | (go_at_call 11; (with_reducible refine (sz1 w4).mono ?_); rintro e w5 ⟨o4, c4, rfl, f4, k5⟩; have c41 := c40 w5 o1 c1 o2 c2 o4 c4 (fs.rd.below k5 (Nat.le_refl _)) fs.sl (fa.rd.below k5 (Nat.le_refl _)) f4.rd)
    | (go_at_call 12; (with_reducible refine c41.mono ?_); rintro e w6 ⟨pD, nD, cD, qD, mD, dD, S6, A6, rfl, f6, g6, ⟨rfl, rfl⟩, k6⟩))
  have k36 : Below w3.heap.size w3 w6 := (k4.trans (k5.mono k4.size)).trans (k6.mono (Nat.le_trans k4.size k5.size))
  have k16 : Below w1.heap.size w1 w6 := k3.trans (k36.mono k3.size)
  have k06 : Below w.heap.size w w6 := k1.trans (k16.mono k1.size)
  have kb6 := box_below w6 (.cells #[.slice pD nD cD, .slice qD mD dD] 26)
  have BX := bq_new (c1 := cD) (c2 := dD) f6.rd g6.rd
  have RB := ((f3.rd.below k36 (Nat.le_refl _)).below kb6 (Nat.le_refl _))
  have SB := f3.sl
  have K := k06.trans (kb6.mono k06.size)
  have RX := h.below K (Nat.le_refl _)
  have gm := g6.rd.len
  obtain rfl : mD = 1 + n := by rw [← gm]; exact lds
  generalize hDS : (List.range (1 + n)).map (tbD ([0] ++ xs) z) = DS at *
  have LD := g6.sl
  have sW : w6.heap.size + 1 = (w6.alloc (.cells #[.slice pD nD cD, .slice qD (1 + n) dD] 26)).heap.size := by simp
  generalize hW7 : w6.alloc (.cells #[.slice pD nD cD, .slice qD (1 + n) dD] 26) = W7 at *
  generalize w6.heap.size = gD at *
  clear hW7 c41 cL L1 X1 f3 fs fa f4 f6 g6 gm k1 k3 k4 k5 k6 k36 k16 k06 kb6 b3 c40
  obtain ⟨q0, q1⟩ := BX.c
  have tn : ((1 + n) != (1 + n)) = false := by simp
  go_wp2
  go_loopw [10] (fun i V => ∃ k : Nat, k ≤ n ∧ i = .int .i64 ((k : Int) + 1) ∧ V = W7) (fun i _ => n + 1 - (intOf i).toNat)
  case atStart => exact ⟨0, Nat.zero_le _, rfl, rfl⟩
  case round =>
    obtain ⟨k, hk, rfl, rfl⟩ := hrel
    by_cases hlt : k < n
    · have t5 : decide ((k : Int) + 1 < ((1 + n : Nat) : Int)) = true := by simp; omega
      have t5b : decide ((k : Int) + 1 < 1 + (n : Int)) = true := by simp; omega
      have bk : (k : Int) + 1 < 1 + (n : Int) := by omega
      have wk : IntKind.i64.wrap ((k : Int) + 1 + 1) = (k : Int) + 1 + 1 := wrZ (by omega) (by omega)
      obtain ⟨b, off, rfl, hb, hc⟩ := RB.cells (by omega)
      obtain ⟨b', off', rfl, hb', hc'⟩ := BX.a.cells (by omega)
      have c1 := hc (k + 1) (by omega)
      have c2 := hc' (k + 1) (by omega)
      obtain ⟨d1, d2, d3, d4⟩ := HD.out k hlt
      rw [d3] at c2
      rw [d4] at c1
      clear hc hc' d3 d4
      generalize nth xs k = x at *
      generalize tbD ([0] ++ xs) z (k + 1) = D at *
      rcases Int.lt_trichotomy x 0 with hx | hx | hx
      · obtain ⟨e1, e2⟩ := d2 hx
        have u1 : decide (0 < x) = false := by simp; omega
        have u2 : decide (x < 0) = true := by simpa using hx
        have u3 : decide (0 < D) = false := by simp; omega
        have u4 : decide (D ≤ x) = false := by simp; omega
        clear d1 d2 hx e1 e2
        go_wp2
        go_roundw
        case rel => exact ⟨k + 1, by omega, by go_num, (by first | trivial | rfl)⟩
        case measure => simp [intOf]; omega
      · have u1 : decide (0 < x) = false := by simp; omega
        have u2 : decide (x < 0) = false := by simp; omega
        clear d1 d2 hx
        go_wp2
        go_roundw
        case rel => exact ⟨k + 1, by omega, by go_num, (by first | trivial | rfl)⟩
        case measure => simp [intOf]; omega
      · obtain ⟨e1, e2⟩ := d1 hx
        have u1 : decide (0 < x) = true := by simpa using hx
        have u2 : decide (x < 0) = false := by simp; omega
        have u3 : decide (D < 0) = false := by simp; omega
        have u4 : decide (x ≤ D) = false := by simp; omega
        clear d1 d2 hx e1 e2
        go_wp2
        go_roundw
        case rel => exact ⟨k + 1, by omega, by go_num, (by first | trivial | rfl)⟩
        case measure => simp [intOf]; omega
    · obtain rfl : k = n := by omega
      have t5 : decide ((k : Int) + 1 < ((1 + k : Nat) : Int)) = false := by simp; omega
      have t5b : decide ((k : Int) + 1 < 1 + (k : Int)) = false := by simp; omega
      go_wp2
      have LB := BX.lt
      have ALLS : ∀ V, Below wr.heap.size wr V → V.cell? ⟨gD, 0, none⟩ = some (.slice pD nD cD) ∧ V.cell? ⟨gD, 1, none⟩ = some (.slice qD (1 + k) dD) ∧ Below wr.heap.size wr V := fun V j => ⟨(BX.below j).c.1, (BX.below j).c.2, j⟩
      have cL := fun V (j : Below wr.heap.size wr V) => list8_any co3 (1 + k) c3 ([0] ++ xs) V (RB.below j (Nat.le_refl _)) SB (by omega)
      go_cut [12, 13] from 114 to 122 (fun s12 s13 V => ∃ gA oA nA cA pA mA dA, s12 = .pointer (some ⟨gA, 0, none⟩) ∧ s13 = .int .i64 0 ∧ Bq V gA oA nA cA pA mA dA [] [r] ∧ Below wr.heap.size wr V)
      case first =>
        go_region_held3 (fun V => V.cell? ⟨gD, 0, none⟩ = some (.slice pD nD cD) ∧ V.cell? ⟨gD, 1, none⟩ = some (.slice qD (1 + k) dD) ∧ Below wr.heap.size wr V) (first | exact ALLS _ (by assumption) | exact ALLS _ (Below.refl _ _).drew | exact ALLS _ (box_below wr _).drew | exact ALLS _ (G1.alloc G1.size _) | exact ALLS _ (G2.alloc G2.size _) | exact ALLS _ (below_set2 _ _ _ _ G2 (by first | exact Nat.le_refl _ | exact G1.size | exact G2.size) (Nat.le_refl _)))
          (first
            | (go_at_call 9; (with_reducible refine (cL (wr.alloc (.cells #[.slice none 0 0, .slice none 0 0] 26)).drew (box_below wr _).drew).mono ?_); rintro e v1 ⟨y1, y2, y3, y4, rfl, fs, fa, j1⟩; have G1 : Below wr.heap.size wr v1 := (box_below wr _).drew.trans (j1.mono (by simp)); have zz1 := (j1.block wr.heap.size (by simp)).trans (allocNew wr (.cells #[.slice none 0 0, .slice none 0 0] 26)))
            | (go_at_call 9; (with_reducible refine (cL wr.drew (Below.refl _ _).drew).mono ?_); rintro e v1 ⟨y1, y2, y3, y4, rfl, fs, fa, j1⟩; have G1 : Below wr.heap.size wr v1 := (Below.refl _ wr).drew.trans j1)
            | (go_at_call 12; (with_reducible refine (c39 v1 _ _ _ _ _ _ _ _ _ fs.rd fa.rd fa.sl (BX.below G1).s (BX.below G1).a LD).mono ?_); rintro e v2 ⟨oA, nA, cA, pA, mA, dA, S9, A9, rfl, f1, f2, ⟨rfl, rfl⟩, j2⟩; have G2 := G1.trans (j2.mono G1.size); (try (have zz2 := (j2.block _ (Array.getElem?_eq_some_iff.1 zz1).1).trans zz1; obtain ⟨w0, w1', w2', w3'⟩ := box2 zz2)))
            | (go_at_call 12; (with_reducible refine (c39 (v1.alloc (.cells #[.slice none 0 0, .slice none 0 0] 26)) _ _ _ _ _ _ _ _ _ (fs.rd.below (box_below v1 _) (Nat.le_refl _)) (fa.rd.below (box_below v1 _) (Nat.le_refl _)) fa.sl (BX.below (G1.alloc G1.size _)).s (BX.below (G1.alloc G1.size _)).a LD).mono ?_); rintro e v2 ⟨oA, nA, cA, pA, mA, dA, S9, A9, rfl, f1, f2, ⟨rfl, rfl⟩, j2⟩; have G2 := (G1.alloc G1.size (.cells #[.slice none 0 0, .slice none 0 0] 26)).trans (j2.mono (G1.alloc G1.size (.cells #[.slice none 0 0, .slice none 0 0] 26)).size); have zz2 := (j2.block v1.heap.size (by simp)).trans (allocNew v1 (.cells #[.slice none 0 0, .slice none 0 0] 26)); obtain ⟨w0, w1', w2', w3'⟩ := box2 zz2))
        all_goals
          go_wp2
          go_meet
          case rel =>
            have gs1 := G1.size
            have gs2 := G2.size
            first
              | exact ⟨_, _, _, _, _, _, _, rfl, rfl, bq_new f1.rd f2.rd, G2.alloc gs2 _⟩
              | exact ⟨_, _, _, _, _, _, _, rfl, rfl, bq_set f1 f2 (by have := j1.size; have := j2.size; simp at *; try omega) zz2, below_set2 _ _ _ _ G2 (by omega) (Nat.le_refl _)⟩
      case rest =>
        obtain ⟨gA, oA, nA, cA, pA, mA, dA, rfl, rfl, BA, GA⟩ := hcut
        have K2 := K.trans (GA.mono K.size)
        have RX2 := RX.below GA (Nat.le_refl _)
        clear c39 ALLS cL RB
        go_wp2
        go_loopw [14] (fun i V => ∃ j : Nat, j ≤ k ∧ i = .int .i64 (j : Nat) ∧ V = wc ∧ ∀ i, i < j → nth xs i ≠ 0) (fun i _ => k - (intOf i).toNat)
        case atStart => exact ⟨0, Nat.zero_le _, rfl, rfl, fun j hj => by omega⟩
        case round =>
          obtain ⟨j, hj, rfl, rfl, hno⟩ := hrel
          have HNO : Hid (∀ i, i < j → nth xs i ≠ 0) := hno
          clear hno
          by_cases hlt : j < k
          · have t6 : decide ((j : Int) < (k : Int)) = true := by simp; omega
            have bj : (j : Int) < (k : Int) := by omega
            obtain ⟨b, off, rfl, hb, hc⟩ := RX2.cells (by omega)
            have c1 := hc j hlt
            clear hc
            by_cases hx : nth xs j = 0
            · have t7 : (nth xs j == 0) = true := by simpa using hx
              have HX : Hid (nth xs j = 0) := hx
              clear hx
              generalize nth xs j = x at *
              go_wp2
              go_ret
              exact ⟨rfl, K2⟩
            · have t7 : (nth xs j == 0) = false := by simpa using hx
              have HX : Hid (nth xs j ≠ 0) := hx
              clear hx
              generalize hxx : nth xs j = x at *
              have HXX : Hid (nth xs j = x) := hxx
              clear hxx
              go_wp2
              go_roundw
              case rel => exact ⟨j + 1, by omega, by go_num, (by first | trivial | rfl), fun i hi => by rcases Nat.lt_succ_iff_lt_or_eq.1 hi with h | h; (· exact HNO.out i h); rw [h, HXX.out]; exact HX.out⟩
              case measure => simp [intOf]; omega
          · obtain rfl : j = k := by omega
            have t6 : decide ((j : Int) < (j : Int)) = false := by simp
            obtain ⟨q, h1, h2⟩ := HZ.out
            exact absurd h2 (HNO.out q h1)

set_option maxHeartbeats 8000000 in
set_option maxRecDepth 20000 in
theorem bases_back (ao : Option Addr) (n c : Nat) (xs : List Int) (z : Int) (w : World) (h : Rd w ao n xs) (hs : Sl ao n c) (z1 : -9223372036854775808 ≤ z) (z2 : z ≤ 9223372036854775807) (hn : n ≤ 4095) (hok : ∀ k, k < 1 + n → tbO ([0] ++ xs) z k = 0) (r : Int) (hfb : fbR ([0] ++ xs) ((List.range (1 + n)).map (tbD ([0] ++ xs) z)) (1 + n) = some r) (hz : ∀ k, k < n → nth xs k ≠ 0) :
    Calls Try.prog 5 #[.slice ao n c, .int .i64 z] w fun e w' => e = .returned (.bool true) ∧ Below w.heap.size w w' := by
  have hrz : r = z := by
    have l1 : ([0] ++ xs).length = 1 + n := by rw [List.length_append, h.len]; rfl
    have := fb_back (r0 := z) l1 (fun k hk => map_nth _ hk) (h0 := rfl) (fun k a b => by obtain ⟨j, rfl⟩ : ∃ j, k = j + 1 := ⟨k - 1, by omega⟩; rw [show nth ([0] ++ xs) (j + 1) = nth xs j from nth_zero_cons xs j]; exact hz j (by omega)) hok (1 + n) (by omega) (Nat.le_refl _) r hfb
    rw [this, tbV_end (by rw [l1]; exact Nat.le_refl _)]
  rw [hrz] at hfb
  have HZ : Hid (∀ k, k < n → nth xs k ≠ 0) := hz
  clear hz hrz
  have cG := begun8_any w
  have t1 : decide (4095 < n) = false := by simp; omega
  have t2 : ¬ (4095 : Int) < (n : Int) := by omega
  have HL : Hid (xs.length = n) := h.len
  have lbs : ([0] ++ xs).length = 1 + n := by rw [List.length_append, HL.out]; rfl
  have c40 : ∀ V o1 c1 o2 c2 o4 c4, Rd V (some o1) 1 [((1 + n : Nat) : Int)] → Sl (some o1) 1 c1 → Rd V o2 (1 + n) ([0] ++ xs) → Rd V o4 1 [z] → Calls Try.prog 12 #[.int .i64 40, .agg #[.slice (some o1) 1 c1, .slice o2 (1 + n) c2], .agg #[.slice none 0 0, .slice o4 1 c4]] V fun e w' => AnsQ V (fun S A => S = [((1 + n : Nat) : Int)] ∧ A = (List.range (1 + n)).map (tbD ([0] ++ xs) z)) 0 e w' := fun V o1 c1 o2 c2 o4 c4 h1 h2 h3 h4 =>
    dyadZ_40 (some o1) o2 none o4 1 c1 (1 + n) c2 0 0 1 c4 [((1 + n : Nat) : Int)] ([0] ++ xs) [] [z] _ 0 V h1 h3 (Rd.nil V) h4 (mayA_list (by omega) lbs) (mayA_sc z) (by omega) (by omega) (fun U k => toBase_ok (some o1) o2 none o4 1 c1 (1 + n) c2 0 0 1 c4 [((1 + n : Nat) : Int)] ([0] ++ xs) [z] z U (h1.below k (Nat.le_refl _)) h2 (by omega) (h3.below k (Nat.le_refl _)) (by omega) (h4.below k (Nat.le_refl _)) (by omega) rfl hok)
  have sz1 := fun V => scalar8_any z V z1 z2
  have lds : ((List.range (1 + n)).map (tbD ([0] ++ xs) z)).length = 1 + n := by simp
  have HD : Hid (∀ k, k < n → (0 < nth xs k → 0 ≤ tbD ([0] ++ xs) z (k + 1) ∧ tbD ([0] ++ xs) z (k + 1) < nth xs k) ∧ (nth xs k < 0 → tbD ([0] ++ xs) z (k + 1) ≤ 0 ∧ nth xs k < tbD ([0] ++ xs) z (k + 1)) ∧ nth ((List.range (1 + n)).map (tbD ([0] ++ xs) z)) (k + 1) = tbD ([0] ++ xs) z (k + 1) ∧ nth ([0] ++ xs) (k + 1) = nth xs k) := fun k hk => by
    have e1 : nth ([0] ++ xs) (k + 1) = nth xs k := nth_zero_cons xs k
    have d := dig_bd (r := tbV ([0] ++ xs) z (k + 1 + 1)) (b := nth ([0] ++ xs) (k + 1))
    rw [e1] at d
    refine ⟨?_, ?_, map_nth _ (by omega), e1⟩
    · intro hp; unfold tbD; rw [e1]; exact d.1 hp
    · intro hp; unfold tbD; rw [e1]; exact d.2 hp
  have c39 : ∀ V o1 c1 o2 c2 o3 n3 c3 o4 c4, Rd V (some o1) 1 [((1 + n : Nat) : Int)] → Rd V o2 (1 + n) ([0] ++ xs) → Sl o2 (1 + n) c2 → Rd V o3 n3 [((1 + n : Nat) : Int)] → Rd V o4 (1 + n) ((List.range (1 + n)).map (tbD ([0] ++ xs) z)) → Sl o4 (1 + n) c4 → Calls Try.prog 12 #[.int .i64 39, .agg #[.slice (some o1) 1 c1, .slice o2 (1 + n) c2], .agg #[.slice o3 n3 c3, .slice o4 (1 + n) c4]] V fun e w' => AnsQ V (fun S A => S = [] ∧ A = [z]) 0 e w' := fun V o1 c1 o2 c2 o3 n3 c3 o4 c4 h1 h2 h3 h4 h5 h6 =>
    dyadZ_39 (some o1) o2 o3 o4 1 c1 (1 + n) c2 n3 c3 (1 + n) c4 [((1 + n : Nat) : Int)] ([0] ++ xs) [((1 + n : Nat) : Int)] ((List.range (1 + n)).map (tbD ([0] ++ xs) z)) _ 0 V h1 h2 h4 h5 (mayA_list (by omega) lbs) (mayA_list (by omega) lds) (by omega) (by have := h4.len; simp at this; omega) (fun U k => (fromBase_any (some o1) o2 o3 o4 1 c1 (1 + n) c2 n3 c3 (1 + n) c4 [((1 + n : Nat) : Int)] ([0] ++ xs) [((1 + n : Nat) : Int)] ((List.range (1 + n)).map (tbD ([0] ++ xs) z)) U (h1.below k (Nat.le_refl _)) (h2.below k (Nat.le_refl _)) h3 (h4.below k (Nat.le_refl _)) (h5.below k (Nat.le_refl _)) h6 (mayA_list (by omega) lbs) (mayA_list (by omega) lds) (.inr (.inr (by rw [lbs, lds])))).mono fun e w' hh => by
      have ef : fbR (takL [((1 + n : Nat) : Int)] ([0] ++ xs) ((List.range (1 + n)).map (tbD ([0] ++ xs) z)).length) (takL [((1 + n : Nat) : Int)] ((List.range (1 + n)).map (tbD ([0] ++ xs) z)) ([0] ++ xs).length) (fbN [((1 + n : Nat) : Int)] [((1 + n : Nat) : Int)] ([0] ++ xs) ((List.range (1 + n)).map (tbD ([0] ++ xs) z))) = some z := by
        have a1 : ∀ (u : List Int) m, takL [((1 + n : Nat) : Int)] u m = u := fun u m => if_neg (by simp)
        unfold fbN
        rw [a1, a1, lbs]
        exact hfb
      rw [ef] at hh
      exact hh)
  clear hok hfb
  go_enter Try.func5, Try.ntmps5
  go_upto_region 14 with (first
    | (go_at_call 7; (with_reducible refine cG.mono ?_); rintro e w1 ⟨rfl, k1⟩; have L1 : Ft 2 (w1.alloc (.cells #[.int .i64 0] 2)) w1.heap.size (some ⟨w1.heap.size, 0, none⟩) 1 1 [0] := ft_new 2 w1 [0] (by simp) (by decide); have X1 := (h.below k1 (Nat.le_refl _)).below (box_below w1 (.cells #[.int .i64 0] 2)) (Nat.le_refl _))
    | (at_builtin; refine wpList_joinT tyL rfl _ _ rfl w1.heap.size (some ⟨w1.heap.size, 0, none⟩) ao 1 1 n c [0] xs rfl rfl L1 X1 hs (by omega) (by simp) ?_; intro co3 c3 w3 f3 b3; have k3 : Below w1.heap.size w1 w3 := (box_below w1 _).trans b3; have cL := list8_any co3 (1 + n) c3 _ w3 f3.rd f3.sl (by omega))
    | (go_at_call 9; (with_reducible refine cL.mono ?_); rintro e w4 ⟨o1, c1, o2, c2, rfl, fs, fa, k4⟩)
    | (go_at_call 11; (with_reducible refine (sz1 w4).mono ?_); rintro e w5 ⟨o4, c4, rfl, f4, k5⟩; have c41 := c40 w5 o1 c1 o2 c2 o4 c4 (fs.rd.below k5 (Nat.le_refl _)) fs.sl (fa.rd.below k5 (Nat.le_refl _)) f4.rd)
    | (go_at_call 12; (with_reducible refine c41.mono ?_); rintro e w6 ⟨pD, nD, cD, qD, mD, dD, S6, A6, rfl, f6, g6, ⟨rfl, rfl⟩, k6⟩))
  have k36 : Below w3.heap.size w3 w6 := (k4.trans (k5.mono k4.size)).trans (k6.mono (Nat.le_trans k4.size k5.size))
  have k16 : Below w1.heap.size w1 w6 := k3.trans (k36.mono k3.size)
  have k06 : Below w.heap.size w w6 := k1.trans (k16.mono k1.size)
  have kb6 := box_below w6 (.cells #[.slice pD nD cD, .slice qD mD dD] 26)
  have BX := bq_new (c1 := cD) (c2 := dD) f6.rd g6.rd
  have RB := ((f3.rd.below k36 (Nat.le_refl _)).below kb6 (Nat.le_refl _))
  have SB := f3.sl
  have K := k06.trans (kb6.mono k06.size)
  have RX := h.below K (Nat.le_refl _)
  have gm := g6.rd.len
  obtain rfl : mD = 1 + n := by rw [← gm]; exact lds
  generalize hDS : (List.range (1 + n)).map (tbD ([0] ++ xs) z) = DS at *
  have LD := g6.sl
  have sW : w6.heap.size + 1 = (w6.alloc (.cells #[.slice pD nD cD, .slice qD (1 + n) dD] 26)).heap.size := by simp
  generalize hW7 : w6.alloc (.cells #[.slice pD nD cD, .slice qD (1 + n) dD] 26) = W7 at *
  generalize w6.heap.size = gD at *
  clear hW7 c41 cL L1 X1 f3 fs fa f4 f6 g6 gm k1 k3 k4 k5 k6 k36 k16 k06 kb6 b3 c40
  obtain ⟨q0, q1⟩ := BX.c
  have tn : ((1 + n) != (1 + n)) = false := by simp
  go_wp2
  go_loopw [10] (fun i V => ∃ k : Nat, k ≤ n ∧ i = .int .i64 ((k : Int) + 1) ∧ V = W7) (fun i _ => n + 1 - (intOf i).toNat)
  case atStart => exact ⟨0, Nat.zero_le _, rfl, rfl⟩
  case round =>
    obtain ⟨k, hk, rfl, rfl⟩ := hrel
    by_cases hlt : k < n
    · have t5 : decide ((k : Int) + 1 < ((1 + n : Nat) : Int)) = true := by simp; omega
      have t5b : decide ((k : Int) + 1 < 1 + (n : Int)) = true := by simp; omega
      have bk : (k : Int) + 1 < 1 + (n : Int) := by omega
      have wk : IntKind.i64.wrap ((k : Int) + 1 + 1) = (k : Int) + 1 + 1 := wrZ (by omega) (by omega)
      obtain ⟨b, off, rfl, hb, hc⟩ := RB.cells (by omega)
      obtain ⟨b', off', rfl, hb', hc'⟩ := BX.a.cells (by omega)
      have c1 := hc (k + 1) (by omega)
      have c2 := hc' (k + 1) (by omega)
      obtain ⟨d1, d2, d3, d4⟩ := HD.out k hlt
      rw [d3] at c2
      rw [d4] at c1
      clear hc hc' d3 d4
      generalize nth xs k = x at *
      generalize tbD ([0] ++ xs) z (k + 1) = D at *
      rcases Int.lt_trichotomy x 0 with hx | hx | hx
      · obtain ⟨e1, e2⟩ := d2 hx
        have u1 : decide (0 < x) = false := by simp; omega
        have u2 : decide (x < 0) = true := by simpa using hx
        have u3 : decide (0 < D) = false := by simp; omega
        have u4 : decide (D ≤ x) = false := by simp; omega
        clear d1 d2 hx e1 e2
        go_wp2
        go_roundw
        case rel => exact ⟨k + 1, by omega, by go_num, (by first | trivial | rfl)⟩
        case measure => simp [intOf]; omega
      · have u1 : decide (0 < x) = false := by simp; omega
        have u2 : decide (x < 0) = false := by simp; omega
        clear d1 d2 hx
        go_wp2
        go_roundw
        case rel => exact ⟨k + 1, by omega, by go_num, (by first | trivial | rfl)⟩
        case measure => simp [intOf]; omega
      · obtain ⟨e1, e2⟩ := d1 hx
        have u1 : decide (0 < x) = true := by simpa using hx
        have u2 : decide (x < 0) = false := by simp; omega
        have u3 : decide (D < 0) = false := by simp; omega
        have u4 : decide (x ≤ D) = false := by simp; omega
        clear d1 d2 hx e1 e2
        go_wp2
        go_roundw
        case rel => exact ⟨k + 1, by omega, by go_num, (by first | trivial | rfl)⟩
        case measure => simp [intOf]; omega
    · obtain rfl : k = n := by omega
      have t5 : decide ((k : Int) + 1 < ((1 + k : Nat) : Int)) = false := by simp; omega
      have t5b : decide ((k : Int) + 1 < 1 + (k : Int)) = false := by simp; omega
      go_wp2
      have LB := BX.lt
      have ALLS : ∀ V, Below wr.heap.size wr V → V.cell? ⟨gD, 0, none⟩ = some (.slice pD nD cD) ∧ V.cell? ⟨gD, 1, none⟩ = some (.slice qD (1 + k) dD) ∧ Below wr.heap.size wr V := fun V j => ⟨(BX.below j).c.1, (BX.below j).c.2, j⟩
      have cL := fun V (j : Below wr.heap.size wr V) => list8_any co3 (1 + k) c3 ([0] ++ xs) V (RB.below j (Nat.le_refl _)) SB (by omega)
      go_cut [12, 13] from 114 to 122 (fun s12 s13 V => ∃ gA oA nA cA pA mA dA, s12 = .pointer (some ⟨gA, 0, none⟩) ∧ s13 = .int .i64 0 ∧ Bq V gA oA nA cA pA mA dA [] [z] ∧ Below wr.heap.size wr V)
      case first =>
        go_region_held3 (fun V => V.cell? ⟨gD, 0, none⟩ = some (.slice pD nD cD) ∧ V.cell? ⟨gD, 1, none⟩ = some (.slice qD (1 + k) dD) ∧ Below wr.heap.size wr V) (first | exact ALLS _ (by assumption) | exact ALLS _ (Below.refl _ _).drew | exact ALLS _ (box_below wr _).drew | exact ALLS _ (G1.alloc G1.size _) | exact ALLS _ (G2.alloc G2.size _) | exact ALLS _ (below_set2 _ _ _ _ G2 (by first | exact Nat.le_refl _ | exact G1.size | exact G2.size) (Nat.le_refl _)))
          (first
            | (go_at_call 9; (with_reducible refine (cL (wr.alloc (.cells #[.slice none 0 0, .slice none 0 0] 26)).drew (box_below wr _).drew).mono ?_); rintro e v1 ⟨y1, y2, y3, y4, rfl, fs, fa, j1⟩; have G1 : Below wr.heap.size wr v1 := (box_below wr _).drew.trans (j1.mono (by simp)); have zz1 := (j1.block wr.heap.size (by simp)).trans (allocNew wr (.cells #[.slice none 0 0, .slice none 0 0] 26)))
            | (go_at_call 9; (with_reducible refine (cL wr.drew (Below.refl _ _).drew).mono ?_); rintro e v1 ⟨y1, y2, y3, y4, rfl, fs, fa, j1⟩; have G1 : Below wr.heap.size wr v1 := (Below.refl _ wr).drew.trans j1)
            | (go_at_call 12; (with_reducible refine (c39 v1 _ _ _ _ _ _ _ _ _ fs.rd fa.rd fa.sl (BX.below G1).s (BX.below G1).a LD).mono ?_); rintro e v2 ⟨oA, nA, cA, pA, mA, dA, S9, A9, rfl, f1, f2, ⟨rfl, rfl⟩, j2⟩; have G2 := G1.trans (j2.mono G1.size); (try (have zz2 := (j2.block _ (Array.getElem?_eq_some_iff.1 zz1).1).trans zz1; obtain ⟨w0, w1', w2', w3'⟩ := box2 zz2)))
            | (go_at_call 12; (with_reducible refine (c39 (v1.alloc (.cells #[.slice none 0 0, .slice none 0 0] 26)) _ _ _ _ _ _ _ _ _ (fs.rd.below (box_below v1 _) (Nat.le_refl _)) (fa.rd.below (box_below v1 _) (Nat.le_refl _)) fa.sl (BX.below (G1.alloc G1.size _)).s (BX.below (G1.alloc G1.size _)).a LD).mono ?_); rintro e v2 ⟨oA, nA, cA, pA, mA, dA, S9, A9, rfl, f1, f2, ⟨rfl, rfl⟩, j2⟩; have G2 := (G1.alloc G1.size (.cells #[.slice none 0 0, .slice none 0 0] 26)).trans (j2.mono (G1.alloc G1.size (.cells #[.slice none 0 0, .slice none 0 0] 26)).size); have zz2 := (j2.block v1.heap.size (by simp)).trans (allocNew v1 (.cells #[.slice none 0 0, .slice none 0 0] 26)); obtain ⟨w0, w1', w2', w3'⟩ := box2 zz2))
        all_goals
          go_wp2
          go_meet
          case rel =>
            have gs1 := G1.size
            have gs2 := G2.size
            first
              | exact ⟨_, _, _, _, _, _, _, rfl, rfl, bq_new f1.rd f2.rd, G2.alloc gs2 _⟩
              | exact ⟨_, _, _, _, _, _, _, rfl, rfl, bq_set f1 f2 (by have := j1.size; have := j2.size; simp at *; try omega) zz2, below_set2 _ _ _ _ G2 (by omega) (Nat.le_refl _)⟩
      case rest =>
        obtain ⟨gA, oA, nA, cA, pA, mA, dA, rfl, rfl, BA, GA⟩ := hcut
        have K2 := K.trans (GA.mono K.size)
        have RX2 := RX.below GA (Nat.le_refl _)
        clear c39 ALLS cL RB
        go_wp2
        go_loopw [14] (fun i V => ∃ j : Nat, j ≤ k ∧ i = .int .i64 (j : Nat) ∧ V = wc ∧ ∀ i, i < j → nth xs i ≠ 0) (fun i _ => k - (intOf i).toNat)
        case atStart => exact ⟨0, Nat.zero_le _, rfl, rfl, fun j hj => by omega⟩
        case round =>
          obtain ⟨j, hj, rfl, rfl, hno⟩ := hrel
          have HNO : Hid (∀ i, i < j → nth xs i ≠ 0) := hno
          clear hno
          by_cases hlt : j < k
          · have t6 : decide ((j : Int) < (k : Int)) = true := by simp; omega
            have bj : (j : Int) < (k : Int) := by omega
            obtain ⟨b, off, rfl, hb, hc⟩ := RX2.cells (by omega)
            have c1 := hc j hlt
            clear hc
            by_cases hx : nth xs j = 0
            · have t7 : (nth xs j == 0) = true := by simpa using hx
              have HX : Hid (nth xs j = 0) := hx
              clear hx
              generalize nth xs j = x at *
              go_wp2
              go_ret
              exact ⟨rfl, K2⟩
            · have t7 : (nth xs j == 0) = false := by simpa using hx
              have HX : Hid (nth xs j ≠ 0) := hx
              clear hx
              generalize hxx : nth xs j = x at *
              have HXX : Hid (nth xs j = x) := hxx
              clear hxx
              go_wp2
              go_roundw
              case rel => exact ⟨j + 1, by omega, by go_num, (by first | trivial | rfl), fun i hi => by rcases Nat.lt_succ_iff_lt_or_eq.1 hi with h | h; (· exact HNO.out i h); rw [h, HXX.out]; exact HX.out⟩
              case measure => simp [intOf]; omega
          · obtain rfl : j = k := by omega
            have t6 : decide ((j : Int) < (j : Int)) = false := by simp
            obtain ⟨y0, y1⟩ := BA.c
            have BAd := BA.below (Below.refl _ _).drew
            have cE := fun V (j : Below wr.drew.heap.size wr.drew V) o c (f : Rd V o 1 [z]) => eqT V oA pA none o nA cA mA dA 0 0 1 c [] [z] (BAd.below j).s (BAd.below j).a (Rd.nil V) f
            go_wp2
            go_region_held3 (fun V => V.cell? ⟨gA, 0, none⟩ = some (.slice oA nA cA) ∧ V.cell? ⟨gA, 1, none⟩ = some (.slice pA mA dA)) (first | exact BAd.c | exact (BAd.below j1).c | exact (BAd.below j12).c)
              (first
                | (go_at_call 11; (with_reducible refine (sz1 wr.drew).mono ?_); rintro e v1 ⟨x1, x2, rfl, fx, j1⟩)
                | (go_at_call 13; (with_reducible refine (cE v1 j1 _ _ fx.rd).mono ?_); rintro e v2 ⟨rfl, j2⟩; have j12 := j1.trans (j2.mono j1.size)))
            go_wp2
            go_ret
            exact ⟨rfl, K2.trans (((Below.refl _ _).drew.trans j12).mono K2.size)⟩

theorem bases_any (ao : Option Addr) (n c : Nat) (xs : List Int) (z : Int) (w : World) (h : Rd w ao n xs) (hs : Sl ao n c) (z1 : -9223372036854775808 ≤ z) (z2 : z ≤ 9223372036854775807) :
    Calls Try.prog 5 #[.slice ao n c, .int .i64 z] w fun e w' => e = .returned (.bool true) ∧ Below w.heap.size w w' := by
  by_cases hn : 4095 < n
  · exact bases_long ao n c xs z w h hs z1 z2 hn
  · by_cases hb : ∃ k, k < 1 + n ∧ tbO ([0] ++ xs) z k ≠ 0
    · exact bases_bad ao n c xs z w h hs z1 z2 (by omega) hb
    · have hok : ∀ k, k < 1 + n → tbO ([0] ++ xs) z k = 0 := fun k hk => by
        by_cases e : tbO ([0] ++ xs) z k = 0
        · exact e
        · exact absurd ⟨k, hk, e⟩ hb
      cases hf : fbR ([0] ++ xs) ((List.range (1 + n)).map (tbD ([0] ++ xs) z)) (1 + n) with
      | none => exact bases_over ao n c xs z w h hs z1 z2 (by omega) hok hf
      | some r =>
        by_cases hz : ∃ k, k < n ∧ nth xs k = 0
        · exact bases_zero ao n c xs z w h hs z1 z2 (by omega) hok r hf hz
        · exact bases_back ao n c xs z w h hs z1 z2 (by omega) hok r hf (fun k hk e => hz ⟨k, hk, e⟩)
end Go.Proofs.Ytjnlkdeiccllgaa
