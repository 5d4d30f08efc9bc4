
/- MoldCuts: the law itself, beyond the array. -/

import Derived.Test.YtpfdiammgdnhmaaGreatCE

namespace Go.Proofs.YtpfdiammgdnhmaaGreat

open Go.RowKit

set_option linter.unusedVariables false

set_option maxHeartbeats 8000000 in
set_option maxRecDepth 20000 in
theorem cuts_over (n : Int) (so ao : Option Addr) (sn sc an ac : Nat) (z : Int) (r at' : List Int) (w : World) (hs : Rd w so sn (z :: r)) (ss : Sl so sn sc) (ha : Rd w ao an at') (sa : Sl ao an ac) (my : mayA (z :: r) at' = 0) (hn1 : -9223372036854775808 ≤ n) (hn2 : n ≤ 9223372036854775807) (hr1 : z < n) :
    Calls Tryz.prog 5 #[.int .i64 n, .agg #[.slice so sn sc, .slice ao an ac]] w fun e w' => e = .returned (.bool true) ∧ Below w.heap.size w w' := by
  have k0 := box_below w (.cells #[.slice so sn sc, .slice ao an ac] 25)
  have b0 := allocNew w (.cells #[.slice so sn sc, .slice ao an ac] 25)
  have cB := begun6_any (w.alloc (.cells #[.slice so sn sc, .slice ao an ac] 25))
  have cM := fun V (k : Below w.heap.size w V) => may6_yes so ao sn sc an ac (z :: r) at' V (hs.below k (Nat.le_refl _)) (ha.below k (Nat.le_refl _)) my
  obtain ⟨m1, m2⟩ := mayA_zero my
  have hz4 : 0 ≤ z ∧ z ≤ 4096 := nth_small m1 (k := 0) (by simp)
  have hsl : r.length + 1 = sn := by have := hs.len; simpa using this
  have hsn0 : 0 < sn := by omega
  have hS : z.toNat ≤ szN n := by unfold szN; omega
  have t0 : ((sn : Int) == 0) = false := by simp; omega
  have t1 : decide (n < -z) = false := by simp; omega
  have t2 : decide (z < n) = true := by simp; omega
  have t3 : decide (0 < n) = true := by simp; omega
  have t4 : decide (n < 0) = false := by simp; omega
  have w1 : IntKind.i64.wrap (-z) = -z := wrapIn _ (by omega)
  have HMY : Hid (mayA (z :: r) at' = 0) := my
  obtain ⟨A, hA⟩ : ∃ A, gthS at' (tkX (z :: r) n) = A := ⟨_, rfl⟩
  obtain ⟨S, hSS⟩ : ∃ S, filS ((szN n : Int) :: r) = S := ⟨_, rfl⟩
  obtain ⟨E, hE⟩ : ∃ E, mayF ((szN n : Int) :: r) = E := ⟨_, rfl⟩
  have H17 : Hid (E = 0 ∨ E = 17) := by rw [← hE]; exact mayF_17 m1 (by omega)
  have HV : Hid (E = 0 → at'.length ≤ A.length ∧ ∀ q, q < A.length → nth A q = nth at' q) := by
    intro e0
    rw [e0] at hE
    have eA : gth at' (tkX (z :: r) n) = A := by rw [← hA]; unfold gthS; rw [lens_tkX m1, if_pos hE]
    have l1 := tkX_len (at' := at') m1 n
    have l2 := atoms_len m1 m2
    have l3 := Nat.mul_le_mul_right (pr r).toNat hS
    rw [eA] at l1
    refine ⟨by omega, fun q hq => ?_⟩
    have := over_nth m1 m2 hS (q := q) (by rw [eA]; exact hq)
    rw [eA, ← l1] at this
    rw [this]
    rw [if_neg (by omega)]
  have TT : Hid (filS ((szN n : Int) :: r) = S ∧ gthS at' (tkX (z :: r) n) = A ∧ mayF ((szN n : Int) :: r) = E) := ⟨hSS, hA, hE⟩
  have dm := dr_may (at' := at') m1 n
  have DD : Hid (mayF (((z.toNat - min (szN n) z.toNat : Nat) : Int) :: r) = 0 ∧ filS (((z.toNat - min (szN n) z.toNat : Nat) : Int) :: r) = ((z.toNat - min (szN n) z.toNat : Nat) : Int) :: r ∧ gthS at' (drX (z :: r) n) = []) := ⟨dm.1, if_pos dm.1, by unfold gthS; rw [lens_drX m1, if_pos dm.1, drX_none m1 hS]⟩
  obtain ⟨b, off, rfl, hb, hc⟩ := hs.cells hsn0
  have c0 : w.cell? ⟨b, off, none⟩ = some (.int .i64 z) := hc 0 hsn0
  have b00 : (0 : Int) < (sn : Int) := by omega
  clear my dm hS m1 m2 hc hsl hr1 hA hSS hE
  go_enter Tryz.func5, Tryz.ntmps5
  go_wp2_with (first
    | (go_at_call 8; (with_reducible refine cB.mono ?_); rintro e W1 ⟨rfl, k1⟩; have K1 := k0.trans (k1.mono k0.size); have r1 := (k1.block w.heap.size (by simp)).trans b0; obtain ⟨y0, y1, _, _⟩ := box2 r1)
    | (go_at_call 9; (with_reducible refine (cM W1 K1).mono ?_); rintro e W2 ⟨rfl, k2⟩; have K2 := K1.trans (k2.mono K1.size); have r2 := (k2.block w.heap.size (Array.getElem?_eq_some_iff.1 r1).1).trans r1; obtain ⟨u0, u1, _, _⟩ := box2 r2; have c2 := (K2.cell (p := ⟨b, off, none⟩) hb).trans c0))
  have BY : Bo W2 w.heap.size (some ⟨b, off, none⟩) sn sc ao an ac (z :: r) at' := ⟨r2, hs.below K2 (Nat.le_refl _), ha.below K2 (Nat.le_refl _), ss, sa⟩
  clear cB cM y0 y1 u0 u1 r1 r2 k1 k2 K1 k0 b0 t0 t1 t2 c2 c0 hb b00
  have ALLS : ∀ V, Below W2.heap.size W2 V → V.cell? ⟨w.heap.size, 0, none⟩ = some (.slice (some ⟨b, off, none⟩) sn sc) ∧ V.cell? ⟨w.heap.size, 1, none⟩ = some (.slice ao an ac) ∧ Below W2.heap.size W2 V := fun V k => ⟨(BY.below k).all.1, (BY.below k).all.2, k⟩
  have cS := fun V => scalar6_any n V hn1 hn2
  have cR := fun V xo (k : Below W2.heap.size W2 V) (hx : Rd V xo 1 [n]) => take_s (some ⟨b, off, none⟩) ao xo sn sc an ac 1 z r at' n V (BY.below k).s (BY.below k).a hx HMY.out
  have LY := BY.lt
  rw [TT.out.1, TT.out.2.1, TT.out.2.2] at cR
  go_cut [6, 7] (fun s1 s2 V => ∃ gA oA nA cA pA mA dA, s1 = .pointer (some ⟨gA, 0, none⟩) ∧ s2 = .int .i64 (E) ∧ Bo V gA oA nA cA pA mA dA (S) (A) ∧ Bo V w.heap.size (some ⟨b, off, none⟩) sn sc ao an ac (z :: r) at' ∧ Below w.heap.size w V)
  case first =>
    go_region_held3 (fun V => V.cell? ⟨w.heap.size, 0, none⟩ = some (.slice (some ⟨b, off, none⟩) sn sc) ∧ V.cell? ⟨w.heap.size, 1, none⟩ = some (.slice ao an ac) ∧ Below W2.heap.size W2 V) (first | exact ALLS _ (by assumption) | exact ALLS _ (Below.refl _ _).drew | exact ALLS _ (box_below W2 _).drew | exact ALLS _ (G1.alloc G1.size _) | exact ALLS _ (G2.alloc G2.size _) | exact ALLS _ (below_set2 _ _ _ _ G2 (by first | exact Nat.le_refl _ | exact G1.size | exact G2.size) (Nat.le_refl _)))
      (first
        | (go_at_call 16; (with_reducible refine (cS (W2.alloc (.cells #[.slice none 0 0, .slice none 0 0] 25)).drew).mono ?_); rintro e v1 ⟨x1, rfl, fx, j1⟩; have G1 : Below W2.heap.size W2 v1 := (box_below W2 _).drew.trans (j1.mono (by simp)); have zz1 := (j1.block W2.heap.size (by simp)).trans (allocNew W2 (.cells #[.slice none 0 0, .slice none 0 0] 25)))
        | (go_at_call 16; (with_reducible refine (cS W2.drew).mono ?_); rintro e v1 ⟨x1, rfl, fx, j1⟩; have G1 : Below W2.heap.size W2 v1 := (Below.refl _ W2).drew.trans j1)
        | (go_at_call 17; (with_reducible refine (cR v1 (some x1) G1 fx.rd).mono ?_); rintro e v2 ⟨oA, nA, cA, pA, mA, dA, rfl, f1, f2, j2⟩; have G2 := G1.trans (j2.mono G1.size); (try (have zz2 := (j2.block _ (Array.getElem?_eq_some_iff.1 zz1).1).trans zz1; obtain ⟨q0, q1, q2, q3⟩ := box2 zz2)))
        | (go_at_call 17; (with_reducible refine (cR (v1.alloc (.cells #[.slice none 0 0, .slice none 0 0] 25)) (some x1) (G1.alloc G1.size _) (fx.rd.below (box_below v1 _) (Nat.le_refl _))).mono ?_); rintro e v2 ⟨oA, nA, cA, pA, mA, dA, rfl, f1, f2, j2⟩; have G2 := (G1.alloc G1.size (.cells #[.slice none 0 0, .slice none 0 0] 25)).trans (j2.mono (G1.alloc G1.size (.cells #[.slice none 0 0, .slice none 0 0] 25)).size); have zz2 := (j2.block v1.heap.size (by simp)).trans (allocNew v1 (.cells #[.slice none 0 0, .slice none 0 0] 25)); obtain ⟨q0, q1, q2, q3⟩ := box2 zz2))
    all_goals
      go_wp2
      go_meet
      case rel =>
        have KK := K2.trans (G2.mono K2.size)
        have gs1 := G1.size
        have gs2 := K2.size
        first
          | exact ⟨_, _, _, _, _, _, _, rfl, rfl, bo_new f1 f2, (BY.below G2).below (box_below v2 _), KK.trans ((box_below v2 _).mono KK.size)⟩
          | exact ⟨_, _, _, _, _, _, _, rfl, rfl, bo_set f1 f2 (by simp) zz2, (BY.below G2).other (by omega) zz2, below_set2 _ _ _ _ KK (by omega) (Nat.le_refl _)⟩
          | exact ⟨_, _, _, _, _, _, _, rfl, rfl, bo_set f1 f2 (by have := j1.size; simp at this; omega) zz2, (BY.below G2).other (by omega) zz2, below_set2 _ _ _ _ KK (by omega) (Nat.le_refl _)⟩
  case rest =>
    clear ALLS cS cR BY LY K2
    obtain ⟨gA, oA, nA, cA, pA, mA, dA, rfl, rfl, BA, BY, KC⟩ := hcut
    go_wp2
    have ALLS : ∀ V, Below wc.heap.size wc V → V.cell? ⟨w.heap.size, 0, none⟩ = some (.slice (some ⟨b, off, none⟩) sn sc) ∧ V.cell? ⟨w.heap.size, 1, none⟩ = some (.slice ao an ac) ∧ Below wc.heap.size wc V := fun V k => ⟨(BY.below k).all.1, (BY.below k).all.2, k⟩
    have cS := fun V => scalar6_any n V hn1 hn2
    have cR := fun V xo (k : Below wc.heap.size wc V) (hx : Rd V xo 1 [n]) => drop_s (some ⟨b, off, none⟩) ao xo sn sc an ac 1 z r at' n V (BY.below k).s (BY.below k).a hx HMY.out
    have LY := BY.lt
    have LBA := BA.lt
    rw [DD.out.2.1, DD.out.2.2, DD.out.1] at cR
    go_cut [8, 9] (fun s1 s2 V => ∃ gB oB nB cB pB mB dB, s1 = .pointer (some ⟨gB, 0, none⟩) ∧ s2 = .int .i64 (0) ∧ Bo V gB oB nB cB pB mB dB (((z.toNat - min (szN n) z.toNat : Nat) : Int) :: r) ([]) ∧ Bo V gA oA nA cA pA mA dA (S) (A) ∧ Bo V w.heap.size (some ⟨b, off, none⟩) sn sc ao an ac (z :: r) at' ∧ Below w.heap.size w V)
    case first =>
      go_region_held3 (fun V => V.cell? ⟨w.heap.size, 0, none⟩ = some (.slice (some ⟨b, off, none⟩) sn sc) ∧ V.cell? ⟨w.heap.size, 1, none⟩ = some (.slice ao an ac) ∧ Below wc.heap.size wc V) (first | exact ALLS _ (by assumption) | exact ALLS _ (Below.refl _ _).drew | exact ALLS _ (box_below wc _).drew | exact ALLS _ (G1.alloc G1.size _) | exact ALLS _ (G2.alloc G2.size _) | exact ALLS _ (below_set2 _ _ _ _ G2 (by first | exact Nat.le_refl _ | exact G1.size | exact G2.size) (Nat.le_refl _)))
        (first
          | (go_at_call 16; (with_reducible refine (cS (wc.alloc (.cells #[.slice none 0 0, .slice none 0 0] 25)).drew).mono ?_); rintro e v1 ⟨x1, rfl, fx, j1⟩; have G1 : Below wc.heap.size wc v1 := (box_below wc _).drew.trans (j1.mono (by simp)); have zz1 := (j1.block wc.heap.size (by simp)).trans (allocNew wc (.cells #[.slice none 0 0, .slice none 0 0] 25)))
          | (go_at_call 16; (with_reducible refine (cS wc.drew).mono ?_); rintro e v1 ⟨x1, rfl, fx, j1⟩; have G1 : Below wc.heap.size wc v1 := (Below.refl _ wc).drew.trans j1)
          | (go_at_call 17; (with_reducible refine (cR v1 (some x1) G1 fx.rd).mono ?_); rintro e v2 ⟨oB, nB, cB, pB, mB, dB, rfl, f1, f2, j2⟩; have G2 := G1.trans (j2.mono G1.size); (try (have zz2 := (j2.block _ (Array.getElem?_eq_some_iff.1 zz1).1).trans zz1; obtain ⟨q0, q1, q2, q3⟩ := box2 zz2)))
          | (go_at_call 17; (with_reducible refine (cR (v1.alloc (.cells #[.slice none 0 0, .slice none 0 0] 25)) (some x1) (G1.alloc G1.size _) (fx.rd.below (box_below v1 _) (Nat.le_refl _))).mono ?_); rintro e v2 ⟨oB, nB, cB, pB, mB, dB, rfl, f1, f2, j2⟩; have G2 := (G1.alloc G1.size (.cells #[.slice none 0 0, .slice none 0 0] 25)).trans (j2.mono (G1.alloc G1.size (.cells #[.slice none 0 0, .slice none 0 0] 25)).size); have zz2 := (j2.block v1.heap.size (by simp)).trans (allocNew v1 (.cells #[.slice none 0 0, .slice none 0 0] 25)); obtain ⟨q0, q1, q2, q3⟩ := box2 zz2))
      all_goals
        go_wp2
        go_meet
        case rel =>
          have KK := KC.trans (G2.mono KC.size)
          have gs1 := G1.size
          have gs2 := KC.size
          first
            | exact ⟨_, _, _, _, _, _, _, rfl, rfl, bo_new f1 f2, (BA.below G2).below (box_below v2 _), (BY.below G2).below (box_below v2 _), KK.trans ((box_below v2 _).mono KK.size)⟩
            | exact ⟨_, _, _, _, _, _, _, rfl, rfl, bo_set f1 f2 (by simp) zz2, (BA.below G2).other (by omega) zz2, (BY.below G2).other (by omega) zz2, below_set2 _ _ _ _ KK (by omega) (Nat.le_refl _)⟩
            | exact ⟨_, _, _, _, _, _, _, rfl, rfl, bo_set f1 f2 (by have := j1.size; simp at this; omega) zz2, (BA.below G2).other (by omega) zz2, (BY.below G2).other (by omega) zz2, below_set2 _ _ _ _ KK (by omega) (Nat.le_refl _)⟩
    case rest =>
      clear ALLS cS cR LY LBA KC BA BY
      obtain ⟨gB, oB, nB, cB, pB, mB, dB, rfl, rfl, BB, BA, BY, KD⟩ := hcut
      obtain ⟨a0, a1⟩ := BA.all
      obtain ⟨b0, b1⟩ := BB.all
      obtain ⟨y0, y1⟩ := BY.all
      obtain rfl : mB = 0 := BB.a.len.symm
      have la := BA.a.len
      have ly := BY.a.len
      have ra := BA.a.room
      have ry := BY.a.room
      rcases H17.out with rfl | rfl
      · obtain ⟨v1, v2⟩ := HV.out rfl
        rw [la] at v2
        obtain ⟨K, hK⟩ : ∃ K : Nat, mA = an + K := ⟨mA - an, by omega⟩
        have w2 : IntKind.i64.wrap ((mA : Int) - (an : Int)) = (K : Int) := by rw [show (mA : Int) - (an : Int) = K by omega]; exact wrapIn _ (by omega)
        have HQ : Hid (∀ q, q < mA → nth A q = nth at' q) := v2
        clear v1 v2 HV
        have t5 : decide ((0 : Int) ≤ (K : Int)) = true := by simp
        go_wp2
        go_loop [11] (fun i => ∃ k : Nat, k ≤ mA ∧ i = .int .i64 (k : Nat)) (fun i => mA - (intOf i).toNat)
        case atStart => exact ⟨0, Nat.zero_le _, rfl⟩
        case round =>
          obtain ⟨k, hk, rfl⟩ := hrel
          by_cases hlt : k < mA
          · obtain ⟨p, off1, rfl, hp, hc⟩ := BA.a.cells (by omega)
            have d1 := hc k hlt
            have he := HQ.out k hlt
            by_cases hlt2 : k < an
            · obtain ⟨p2, off2, rfl, hp2, hc2⟩ := BY.a.cells (by omega)
              have d2 := hc2 k hlt2
              have hne : (nth A k != nth at' k) = false := by rw [he]; simp
              clear hc hc2 he BA BY BB
              go_wp2
              go_round
              case rel => exact ⟨k + 1, by omega, by go_num⟩
              case measure => simp [intOf]; omega
            · have hne : (nth A k != 0) = false := by rw [he, nth_over (by omega)]; simp
              clear hc he BA BY BB
              go_wp2
              go_round
              case rel => exact ⟨k + 1, by omega, by go_num⟩
              case measure => simp [intOf]; omega
          · obtain rfl : k = mA := by omega
            go_wp2
            go_ret
            exact ⟨ret_bool (decide_eq_true (by omega)), KD⟩
      · go_wp2
        go_ret
        exact ⟨rfl, KD⟩

set_option maxHeartbeats 8000000 in
set_option maxRecDepth 20000 in
theorem cuts_under (n : Int) (so ao : Option Addr) (sn sc an ac : Nat) (z : Int) (r at' : List Int) (w : World) (hs : Rd w so sn (z :: r)) (ss : Sl so sn sc) (ha : Rd w ao an at') (sa : Sl ao an ac) (my : mayA (z :: r) at' = 0) (hn1 : -9223372036854775808 ≤ n) (hn2 : n ≤ 9223372036854775807) (hr1 : n < -z) :
    Calls Tryz.prog 5 #[.int .i64 n, .agg #[.slice so sn sc, .slice ao an ac]] w fun e w' => e = .returned (.bool true) ∧ Below w.heap.size w w' := by
  have k0 := box_below w (.cells #[.slice so sn sc, .slice ao an ac] 25)
  have b0 := allocNew w (.cells #[.slice so sn sc, .slice ao an ac] 25)
  have cB := begun6_any (w.alloc (.cells #[.slice so sn sc, .slice ao an ac] 25))
  have cM := fun V (k : Below w.heap.size w V) => may6_yes so ao sn sc an ac (z :: r) at' V (hs.below k (Nat.le_refl _)) (ha.below k (Nat.le_refl _)) my
  obtain ⟨m1, m2⟩ := mayA_zero my
  have hz4 : 0 ≤ z ∧ z ≤ 4096 := nth_small m1 (k := 0) (by simp)
  have hsl : r.length + 1 = sn := by have := hs.len; simpa using this
  have hsn0 : 0 < sn := by omega
  have hS : z.toNat ≤ szN n := by unfold szN; omega
  have t0 : ((sn : Int) == 0) = false := by simp; omega
  have t1 : decide (n < -z) = true := by simp; omega
  have t3 : decide (0 < n) = false := by simp; omega
  have t4 : decide (n < 0) = true := by simp; omega
  have w1 : IntKind.i64.wrap (-z) = -z := wrapIn _ (by omega)
  have HMY : Hid (mayA (z :: r) at' = 0) := my
  obtain ⟨A, hA⟩ : ∃ A, gthS at' (tkX (z :: r) n) = A := ⟨_, rfl⟩
  obtain ⟨S, hSS⟩ : ∃ S, filS ((szN n : Int) :: r) = S := ⟨_, rfl⟩
  obtain ⟨E, hE⟩ : ∃ E, mayF ((szN n : Int) :: r) = E := ⟨_, rfl⟩
  have H17 : Hid (E = 0 ∨ E = 17) := by rw [← hE]; exact mayF_17 m1 (by omega)
  have HV : Hid (E = 0 → at'.length ≤ A.length ∧ ∀ q, q < A.length → nth A q = if A.length - at'.length ≤ q then nth at' (q - (A.length - at'.length)) else 0) := by
    intro e0
    rw [e0] at hE
    have eA : gth at' (tkX (z :: r) n) = A := by rw [← hA]; unfold gthS; rw [lens_tkX m1, if_pos hE]
    have l1 := tkX_len (at' := at') m1 n
    have l2 := atoms_len m1 m2
    have l3 := Nat.mul_le_mul_right (pr r).toNat hS
    rw [eA] at l1
    refine ⟨by omega, fun q hq => ?_⟩
    have := over_nth m1 m2 hS (q := q) (by rw [eA]; exact hq)
    rw [eA, ← l1] at this
    rw [this]
    rw [if_pos (by omega)]
  have TT : Hid (filS ((szN n : Int) :: r) = S ∧ gthS at' (tkX (z :: r) n) = A ∧ mayF ((szN n : Int) :: r) = E) := ⟨hSS, hA, hE⟩
  have dm := dr_may (at' := at') m1 n
  have DD : Hid (mayF (((z.toNat - min (szN n) z.toNat : Nat) : Int) :: r) = 0 ∧ filS (((z.toNat - min (szN n) z.toNat : Nat) : Int) :: r) = ((z.toNat - min (szN n) z.toNat : Nat) : Int) :: r ∧ gthS at' (drX (z :: r) n) = []) := ⟨dm.1, if_pos dm.1, by unfold gthS; rw [lens_drX m1, if_pos dm.1, drX_none m1 hS]⟩
  obtain ⟨b, off, rfl, hb, hc⟩ := hs.cells hsn0
  have c0 : w.cell? ⟨b, off, none⟩ = some (.int .i64 z) := hc 0 hsn0
  have b00 : (0 : Int) < (sn : Int) := by omega
  clear my dm hS m1 m2 hc hsl hr1 hA hSS hE
  go_enter Tryz.func5, Tryz.ntmps5
  go_wp2_with (first
    | (go_at_call 8; (with_reducible refine cB.mono ?_); rintro e W1 ⟨rfl, k1⟩; have K1 := k0.trans (k1.mono k0.size); have r1 := (k1.block w.heap.size (by simp)).trans b0; obtain ⟨y0, y1, _, _⟩ := box2 r1)
    | (go_at_call 9; (with_reducible refine (cM W1 K1).mono ?_); rintro e W2 ⟨rfl, k2⟩; have K2 := K1.trans (k2.mono K1.size); have r2 := (k2.block w.heap.size (Array.getElem?_eq_some_iff.1 r1).1).trans r1; obtain ⟨u0, u1, _, _⟩ := box2 r2; have c2 := (K2.cell (p := ⟨b, off, none⟩) hb).trans c0))
  have BY : Bo W2 w.heap.size (some ⟨b, off, none⟩) sn sc ao an ac (z :: r) at' := ⟨r2, hs.below K2 (Nat.le_refl _), ha.below K2 (Nat.le_refl _), ss, sa⟩
  clear cB cM y0 y1 u0 u1 r1 r2 k1 k2 K1 k0 b0 t0 t1 c2 c0 hb b00
  have ALLS : ∀ V, Below W2.heap.size W2 V → V.cell? ⟨w.heap.size, 0, none⟩ = some (.slice (some ⟨b, off, none⟩) sn sc) ∧ V.cell? ⟨w.heap.size, 1, none⟩ = some (.slice ao an ac) ∧ Below W2.heap.size W2 V := fun V k => ⟨(BY.below k).all.1, (BY.below k).all.2, k⟩
  have cS := fun V => scalar6_any n V hn1 hn2
  have cR := fun V xo (k : Below W2.heap.size W2 V) (hx : Rd V xo 1 [n]) => take_s (some ⟨b, off, none⟩) ao xo sn sc an ac 1 z r at' n V (BY.below k).s (BY.below k).a hx HMY.out
  have LY := BY.lt
  rw [TT.out.1, TT.out.2.1, TT.out.2.2] at cR
  go_cut [6, 7] (fun s1 s2 V => ∃ gA oA nA cA pA mA dA, s1 = .pointer (some ⟨gA, 0, none⟩) ∧ s2 = .int .i64 (E) ∧ Bo V gA oA nA cA pA mA dA (S) (A) ∧ Bo V w.heap.size (some ⟨b, off, none⟩) sn sc ao an ac (z :: r) at' ∧ Below w.heap.size w V)
  case first =>
    go_region_held3 (fun V => V.cell? ⟨w.heap.size, 0, none⟩ = some (.slice (some ⟨b, off, none⟩) sn sc) ∧ V.cell? ⟨w.heap.size, 1, none⟩ = some (.slice ao an ac) ∧ Below W2.heap.size W2 V) (first | exact ALLS _ (by assumption) | exact ALLS _ (Below.refl _ _).drew | exact ALLS _ (box_below W2 _).drew | exact ALLS _ (G1.alloc G1.size _) | exact ALLS _ (G2.alloc G2.size _) | exact ALLS _ (below_set2 _ _ _ _ G2 (by first | exact Nat.le_refl _ | exact G1.size | exact G2.size) (Nat.le_refl _)))
      (first
        | (go_at_call 16; (with_reducible refine (cS (W2.alloc (.cells #[.slice none 0 0, .slice none 0 0] 25)).drew).mono ?_); rintro e v1 ⟨x1, rfl, fx, j1⟩; have G1 : Below W2.heap.size W2 v1 := (box_below W2 _).drew.trans (j1.mono (by simp)); have zz1 := (j1.block W2.heap.size (by simp)).trans (allocNew W2 (.cells #[.slice none 0 0, .slice none 0 0] 25)))
        | (go_at_call 16; (with_reducible refine (cS W2.drew).mono ?_); rintro e v1 ⟨x1, rfl, fx, j1⟩; have G1 : Below W2.heap.size W2 v1 := (Below.refl _ W2).drew.trans j1)
        | (go_at_call 17; (with_reducible refine (cR v1 (some x1) G1 fx.rd).mono ?_); rintro e v2 ⟨oA, nA, cA, pA, mA, dA, rfl, f1, f2, j2⟩; have G2 := G1.trans (j2.mono G1.size); (try (have zz2 := (j2.block _ (Array.getElem?_eq_some_iff.1 zz1).1).trans zz1; obtain ⟨q0, q1, q2, q3⟩ := box2 zz2)))
        | (go_at_call 17; (with_reducible refine (cR (v1.alloc (.cells #[.slice none 0 0, .slice none 0 0] 25)) (some x1) (G1.alloc G1.size _) (fx.rd.below (box_below v1 _) (Nat.le_refl _))).mono ?_); rintro e v2 ⟨oA, nA, cA, pA, mA, dA, rfl, f1, f2, j2⟩; have G2 := (G1.alloc G1.size (.cells #[.slice none 0 0, .slice none 0 0] 25)).trans (j2.mono (G1.alloc G1.size (.cells #[.slice none 0 0, .slice none 0 0] 25)).size); have zz2 := (j2.block v1.heap.size (by simp)).trans (allocNew v1 (.cells #[.slice none 0 0, .slice none 0 0] 25)); obtain ⟨q0, q1, q2, q3⟩ := box2 zz2))
    all_goals
      go_wp2
      go_meet
      case rel =>
        have KK := K2.trans (G2.mono K2.size)
        have gs1 := G1.size
        have gs2 := K2.size
        first
          | exact ⟨_, _, _, _, _, _, _, rfl, rfl, bo_new f1 f2, (BY.below G2).below (box_below v2 _), KK.trans ((box_below v2 _).mono KK.size)⟩
          | exact ⟨_, _, _, _, _, _, _, rfl, rfl, bo_set f1 f2 (by simp) zz2, (BY.below G2).other (by omega) zz2, below_set2 _ _ _ _ KK (by omega) (Nat.le_refl _)⟩
          | exact ⟨_, _, _, _, _, _, _, rfl, rfl, bo_set f1 f2 (by have := j1.size; simp at this; omega) zz2, (BY.below G2).other (by omega) zz2, below_set2 _ _ _ _ KK (by omega) (Nat.le_refl _)⟩
  case rest =>
    clear ALLS cS cR BY LY K2
    obtain ⟨gA, oA, nA, cA, pA, mA, dA, rfl, rfl, BA, BY, KC⟩ := hcut
    go_wp2
    have ALLS : ∀ V, Below wc.heap.size wc V → V.cell? ⟨w.heap.size, 0, none⟩ = some (.slice (some ⟨b, off, none⟩) sn sc) ∧ V.cell? ⟨w.heap.size, 1, none⟩ = some (.slice ao an ac) ∧ Below wc.heap.size wc V := fun V k => ⟨(BY.below k).all.1, (BY.below k).all.2, k⟩
    have cS := fun V => scalar6_any n V hn1 hn2
    have cR := fun V xo (k : Below wc.heap.size wc V) (hx : Rd V xo 1 [n]) => drop_s (some ⟨b, off, none⟩) ao xo sn sc an ac 1 z r at' n V (BY.below k).s (BY.below k).a hx HMY.out
    have LY := BY.lt
    have LBA := BA.lt
    rw [DD.out.2.1, DD.out.2.2, DD.out.1] at cR
    go_cut [8, 9] (fun s1 s2 V => ∃ gB oB nB cB pB mB dB, s1 = .pointer (some ⟨gB, 0, none⟩) ∧ s2 = .int .i64 (0) ∧ Bo V gB oB nB cB pB mB dB (((z.toNat - min (szN n) z.toNat : Nat) : Int) :: r) ([]) ∧ Bo V gA oA nA cA pA mA dA (S) (A) ∧ Bo V w.heap.size (some ⟨b, off, none⟩) sn sc ao an ac (z :: r) at' ∧ Below w.heap.size w V)
    case first =>
      go_region_held3 (fun V => V.cell? ⟨w.heap.size, 0, none⟩ = some (.slice (some ⟨b, off, none⟩) sn sc) ∧ V.cell? ⟨w.heap.size, 1, none⟩ = some (.slice ao an ac) ∧ Below wc.heap.size wc V) (first | exact ALLS _ (by assumption) | exact ALLS _ (Below.refl _ _).drew | exact ALLS _ (box_below wc _).drew | exact ALLS _ (G1.alloc G1.size _) | exact ALLS _ (G2.alloc G2.size _) | exact ALLS _ (below_set2 _ _ _ _ G2 (by first | exact Nat.le_refl _ | exact G1.size | exact G2.size) (Nat.le_refl _)))
        (first
          | (go_at_call 16; (with_reducible refine (cS (wc.alloc (.cells #[.slice none 0 0, .slice none 0 0] 25)).drew).mono ?_); rintro e v1 ⟨x1, rfl, fx, j1⟩; have G1 : Below wc.heap.size wc v1 := (box_below wc _).drew.trans (j1.mono (by simp)); have zz1 := (j1.block wc.heap.size (by simp)).trans (allocNew wc (.cells #[.slice none 0 0, .slice none 0 0] 25)))
          | (go_at_call 16; (with_reducible refine (cS wc.drew).mono ?_); rintro e v1 ⟨x1, rfl, fx, j1⟩; have G1 : Below wc.heap.size wc v1 := (Below.refl _ wc).drew.trans j1)
          | (go_at_call 17; (with_reducible refine (cR v1 (some x1) G1 fx.rd).mono ?_); rintro e v2 ⟨oB, nB, cB, pB, mB, dB, rfl, f1, f2, j2⟩; have G2 := G1.trans (j2.mono G1.size); (try (have zz2 := (j2.block _ (Array.getElem?_eq_some_iff.1 zz1).1).trans zz1; obtain ⟨q0, q1, q2, q3⟩ := box2 zz2)))
          | (go_at_call 17; (with_reducible refine (cR (v1.alloc (.cells #[.slice none 0 0, .slice none 0 0] 25)) (some x1) (G1.alloc G1.size _) (fx.rd.below (box_below v1 _) (Nat.le_refl _))).mono ?_); rintro e v2 ⟨oB, nB, cB, pB, mB, dB, rfl, f1, f2, j2⟩; have G2 := (G1.alloc G1.size (.cells #[.slice none 0 0, .slice none 0 0] 25)).trans (j2.mono (G1.alloc G1.size (.cells #[.slice none 0 0, .slice none 0 0] 25)).size); have zz2 := (j2.block v1.heap.size (by simp)).trans (allocNew v1 (.cells #[.slice none 0 0, .slice none 0 0] 25)); obtain ⟨q0, q1, q2, q3⟩ := box2 zz2))
      all_goals
        go_wp2
        go_meet
        case rel =>
          have KK := KC.trans (G2.mono KC.size)
          have gs1 := G1.size
          have gs2 := KC.size
          first
            | exact ⟨_, _, _, _, _, _, _, rfl, rfl, bo_new f1 f2, (BA.below G2).below (box_below v2 _), (BY.below G2).below (box_below v2 _), KK.trans ((box_below v2 _).mono KK.size)⟩
            | exact ⟨_, _, _, _, _, _, _, rfl, rfl, bo_set f1 f2 (by simp) zz2, (BA.below G2).other (by omega) zz2, (BY.below G2).other (by omega) zz2, below_set2 _ _ _ _ KK (by omega) (Nat.le_refl _)⟩
            | exact ⟨_, _, _, _, _, _, _, rfl, rfl, bo_set f1 f2 (by have := j1.size; simp at this; omega) zz2, (BA.below G2).other (by omega) zz2, (BY.below G2).other (by omega) zz2, below_set2 _ _ _ _ KK (by omega) (Nat.le_refl _)⟩
    case rest =>
      clear ALLS cS cR LY LBA KC BA BY
      obtain ⟨gB, oB, nB, cB, pB, mB, dB, rfl, rfl, BB, BA, BY, KD⟩ := hcut
      obtain ⟨a0, a1⟩ := BA.all
      obtain ⟨b0, b1⟩ := BB.all
      obtain ⟨y0, y1⟩ := BY.all
      obtain rfl : mB = 0 := BB.a.len.symm
      have la := BA.a.len
      have ly := BY.a.len
      have ra := BA.a.room
      have ry := BY.a.room
      rcases H17.out with rfl | rfl
      · obtain ⟨v1, v2⟩ := HV.out rfl
        rw [la] at v2
        obtain ⟨K, hK⟩ : ∃ K : Nat, mA = an + K := ⟨mA - an, by omega⟩
        have w2 : IntKind.i64.wrap ((mA : Int) - (an : Int)) = (K : Int) := by rw [show (mA : Int) - (an : Int) = K by omega]; exact wrapIn _ (by omega)
        have HQ : Hid (∀ q, q < mA → nth A q = if mA - at'.length ≤ q then nth at' (q - (mA - at'.length)) else 0) := v2
        clear v1 v2 HV
        have t5 : decide ((0 : Int) ≤ (K : Int)) = true := by simp
        go_wp2
        go_loop [11] (fun i => ∃ k : Nat, k ≤ mA ∧ i = .int .i64 (k : Nat)) (fun i => mA - (intOf i).toNat)
        case atStart => exact ⟨0, Nat.zero_le _, rfl⟩
        case round =>
          obtain ⟨k, hk, rfl⟩ := hrel
          by_cases hlt : k < mA
          · obtain ⟨p, off1, rfl, hp, hc⟩ := BA.a.cells (by omega)
            have d1 := hc k hlt
            have he := HQ.out k hlt
            rw [show mA - at'.length = K by omega] at he
            by_cases hlt2 : K ≤ k
            · obtain ⟨p2, off2, rfl, hp2, hc2⟩ := BY.a.cells (by omega)
              have d2 := hc2 (k - K) (by omega)
              rw [if_pos hlt2] at he
              have hne : (nth A k != nth at' (k - K)) = false := by rw [he]; simp
              have w3 : IntKind.i64.wrap ((k : Int) - (K : Int)) = ((k - K : Nat) : Int) := by rw [show (k : Int) - (K : Int) = ((k - K : Nat) : Int) by omega]; exact wrapIn _ (by omega)
              have hkk : k - K < an := by omega
              clear hc hc2 he BA BY BB
              go_wp2
              go_round
              case rel => exact ⟨k + 1, by omega, by go_num⟩
              case measure => simp [intOf]; omega
            · rw [if_neg hlt2] at he
              have hne : (nth A k != 0) = false := by rw [he]; simp
              clear hc he BA BY BB
              go_wp2
              go_round
              case rel => exact ⟨k + 1, by omega, by go_num⟩
              case measure => simp [intOf]; omega
          · obtain rfl : k = mA := by omega
            go_wp2
            go_ret
            exact ⟨ret_bool (decide_eq_true (by omega)), KD⟩
      · go_wp2
        go_ret
        exact ⟨rfl, KD⟩
end Go.Proofs.YtpfdiammgdnhmaaGreat
