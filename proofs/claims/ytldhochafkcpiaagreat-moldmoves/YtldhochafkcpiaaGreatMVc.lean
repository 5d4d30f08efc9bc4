
/- MoldMoves: where op 33 goes well, up to the axes. -/

import Derived.Test.YtldhochafkcpiaaGreatMVk

namespace Go.Proofs.YtldhochafkcpiaaGreat

open Go.RowKit

set_option linter.unusedVariables false

def ctI (l : List Nat) : List Int := l.map fun (i : Nat) => (i : Int)
theorem ctI_len (l : List Nat) : (ctI l).length = l.length := by simp [ctI]
theorem ctI_app (a b : List Nat) : ctI (a ++ b) = ctI a ++ ctI b := by simp [ctI]
theorem nth_ctI {l : List Nat} {k : Nat} (h : k < l.length) : nth (ctI l) k = (l.getD k 0 : Nat) := by
  unfold nth ctI
  rw [List.getD_eq_getElem?_getD, List.getElem?_map, List.getD_eq_getElem?_getD, List.getElem?_eq_getElem h]; rfl
theorem new1 (V : World) (z : Int) (h0 : -9223372036854775808 ≤ z) (h1 : z ≤ 9223372036854775807) (e : TypeId) : Ft e (V.alloc (.cells #[.int .i64 z] e)) V.heap.size (some ⟨V.heap.size, 0, none⟩) 1 1 [z] := ft_new e V [z] (by simp) (num1 h0 h1)
/-- What is known once op 33 has answered: both boxes, and the list that was handed in. -/
structure Mv (w V : World) (xo : Option Addr) (xn : Nat) (xs : List Int) (gA : Nat) (oA : Option Addr) (nA cA : Nat) (pA : Option Addr) (mA dA : Nat) (S A : List Int) (so : Option Addr) (sn sc : Nat) (ao : Option Addr) (an ac : Nat) (sy ay : List Int) : Prop where
  a : Bo V gA oA nA cA pA mA dA S A
  y : Bo V w.heap.size so sn sc ao an ac sy ay
  x : Rd V xo xn xs
  bel : Below w.heap.size w V
theorem Mv.below {w V V' : World} {xo : Option Addr} {xn : Nat} {xs : List Int} {gA : Nat} {oA : Option Addr} {nA cA : Nat} {pA : Option Addr} {mA dA : Nat} {S A : List Int} {so : Option Addr} {sn sc : Nat} {ao : Option Addr} {an ac : Nat} {sy ay : List Int} (h : Mv w V xo xn xs gA oA nA cA pA mA dA S A so sn sc ao an ac sy ay) (k : Below V.heap.size V V') : Mv w V' xo xn xs gA oA nA cA pA mA dA S A so sn sc ao an ac sy ay :=
  ⟨h.a.below k, h.y.below k, h.x.below k (Nat.le_refl _), h.bel.trans (k.mono h.bel.size)⟩

set_option maxHeartbeats 8000000 in
set_option maxRecDepth 20000 in
theorem moves_ok (xo so ao : Option Addr) (xn xc sn sc an ac : Nat) (xs sy ay : List Int) (w : World) (hx : Rd w xo xn xs) (sx : Sl xo xn xc) (hs : Rd w so sn sy) (ss : Sl so sn sc) (ha : Rd w ao an ay) (sa : Sl ao an ac) (S A : List Int) (G : Gd sn xs) (h8 : sn ≤ 8) (hxn : xn ≤ sn)
    (hc : ∀ V o1 o2 c2, Below w.heap.size w V → Rd V (some o1) 1 [(xn : Int)] → Rd V o2 xn xs → Calls Tryz.prog 5 #[.int .i64 33, .agg #[.slice (some o1) 1 1, .slice o2 xn c2], .agg #[.slice so sn sc, .slice ao an ac]] V fun e w' => Ans V V.heap.size S A 0 e w')
    (hmay : ∀ V, Below w.heap.size w V → Calls Tryz.prog 7 #[.agg #[.slice so sn sc, .slice ao an ac]] V fun e w' => e = .returned (.bool true) ∧ Below V.heap.size V w')
    (hS : S = (prm sn xs).map (nth sy)) (hback : ∀ Bl, Bck sn (prm sn xs) Bl → ∀ V o1 o2 c2 oA nA cA pA mA dA, Rd V (some o1) 1 [(sn : Int)] → Rd V o2 sn Bl → Rd V oA nA S → Rd V pA mA A → Calls Tryz.prog 5 #[.int .i64 33, .agg #[.slice (some o1) 1 1, .slice o2 sn c2], .agg #[.slice oA nA cA, .slice pA mA dA]] V fun e w' => Ans V V.heap.size sy ay 0 e w') :
    Calls Tryz.prog 3 #[.slice xo xn xc, .agg #[.slice so sn sc, .slice ao an ac]] w fun e w' => e = .returned (.bool true) ∧ Below w.heap.size w w' := by
  have k0 := box_below w (.cells #[.slice so sn sc, .slice ao an ac] 25)
  have b0 := allocNew w (.cells #[.slice so sn sc, .slice ao an ac] 25)
  have cB := begun6_any (w.alloc (.cells #[.slice so sn sc, .slice ao an ac] 25))
  have HG : Hid (Gd sn xs) := G
  have HL : Hid (xs.length = xn) := hx.len
  have hlb : ¬ (4096 : Int) < (xn : Int) := by omega
  have hlb' : decide (4096 < xn) = false := by simp; omega
  have hmk2 := fun W => run_make_row' (P := Tryz.prog) 22 2 (.int .i64 0) 8 Tryz.underlying22 (by kernel_rfl) rfl .i64 .i64 sn (by omega) (by omega) W
  have hmk := fun W => run_make_row' (P := Tryz.prog) 32 4 (.bool false) 1 Tryz.underlying32 (by kernel_rfl) rfl .i64 .i64 sn (by omega) (by omega) W
  clear G
  go_enter Tryz.func3, Tryz.ntmps3
  go_upto_region 4 with (go_at_call 4; (with_reducible refine cB.mono ?_); rintro e W2 ⟨rfl, k1⟩; have K2 := k0.trans (k1.mono k0.size); have r2 := (k1.block w.heap.size (by simp)).trans b0; obtain ⟨y0, y1, _, _⟩ := box2 r2)
  have BY : Bo W2 w.heap.size so sn sc ao an ac sy ay := ⟨r2, hs.below K2 (Nat.le_refl _), ha.below K2 (Nat.le_refl _), ss, sa⟩
  have ALLS : ∀ V, Below W2.heap.size W2 V → V.cell? ⟨w.heap.size, 0, none⟩ = some (.slice so sn sc) ∧ V.cell? ⟨w.heap.size, 1, none⟩ = some (.slice ao an ac) ∧ Below W2.heap.size W2 V := fun V k => ⟨(BY.below k).all.1, (BY.below k).all.2, k⟩
  have cS := fun V (k : Below W2.heap.size W2 V) => list6_gen xo xn xc xs V (hx.below (K2.trans (k.mono K2.size)) (Nat.le_refl _)) sx
  have cR := fun V o1 o2 c2 (k : Below W2.heap.size W2 V) h1 h2 => hc V o1 o2 c2 (K2.trans (k.mono K2.size)) h1 h2
  have LY := BY.lt
  clear cB k1 r2 b0 k0 hc y0 y1
  go_cut [6, 7] from 22 to 28 (fun s6 s7 V => ∃ gA oA nA cA pA mA dA, s6 = .pointer (some ⟨gA, 0, none⟩) ∧ s7 = .int .i64 0 ∧ Bo V gA oA nA cA pA mA dA S A ∧ Bo V w.heap.size so sn sc ao an ac sy ay ∧ Below w.heap.size w V)
  case first =>
    go_region_held3 (fun V => V.cell? ⟨w.heap.size, 0, none⟩ = some (.slice so sn sc) ∧ V.cell? ⟨w.heap.size, 1, none⟩ = some (.slice ao an ac) ∧ Below W2.heap.size W2 V) (first | exact ALLS _ (by assumption) | exact ALLS _ (Below.refl _ _).drew | exact ALLS _ (box_below W2 _).drew | exact ALLS _ (G1.alloc G1.size _) | exact ALLS _ (G2.alloc G2.size _) | exact ALLS _ (below_set2 _ _ _ _ G2 (by first | exact Nat.le_refl _ | exact G1.size | exact G2.size) (Nat.le_refl _)))
      (first
        | (go_at_call 6; (with_reducible refine (cS (W2.alloc (.cells #[.slice none 0 0, .slice none 0 0] 25)).drew (box_below W2 _).drew).mono ?_); rintro e v1 ⟨x1, x2, x3, rfl, fx1, fx2, j1⟩; have G1 : Below W2.heap.size W2 v1 := (box_below W2 _).drew.trans (j1.mono (by simp)); have zz1 := (j1.block W2.heap.size (by simp)).trans (allocNew W2 (.cells #[.slice none 0 0, .slice none 0 0] 25)))
        | (go_at_call 6; (with_reducible refine (cS W2.drew (Below.refl _ W2).drew).mono ?_); rintro e v1 ⟨x1, x2, x3, rfl, fx1, fx2, j1⟩; have G1 : Below W2.heap.size W2 v1 := (Below.refl _ W2).drew.trans j1)
        | (go_at_call 5; (with_reducible refine (cR v1 x1 x2 x3 G1 fx1.rd fx2.rd).mono ?_); rintro e v2 ⟨oA, nA, cA, pA, mA, dA, rfl, f1, f2, j2⟩; have G2 := G1.trans (j2.mono G1.size); (try (have zz2 := (j2.block _ (Array.getElem?_eq_some_iff.1 zz1).1).trans zz1; obtain ⟨q0, q1, q2, q3⟩ := box2 zz2)))
        | (go_at_call 5; (with_reducible refine (cR (v1.alloc (.cells #[.slice none 0 0, .slice none 0 0] 25)) x1 x2 x3 (G1.alloc G1.size _) (fx1.rd.below (box_below v1 _) (Nat.le_refl _)) (fx2.rd.below (box_below v1 _) (Nat.le_refl _))).mono ?_); rintro e v2 ⟨oA, nA, cA, pA, mA, dA, rfl, f1, f2, j2⟩; have G2 := (G1.alloc G1.size (.cells #[.slice none 0 0, .slice none 0 0] 25)).trans (j2.mono (G1.alloc G1.size (.cells #[.slice none 0 0, .slice none 0 0] 25)).size); have zz2 := (j2.block v1.heap.size (by simp)).trans (allocNew v1 (.cells #[.slice none 0 0, .slice none 0 0] 25)); obtain ⟨q0, q1, q2, q3⟩ := box2 zz2))
    all_goals
      go_wp2
      go_meet
      case rel =>
        have KK := K2.trans (G2.mono K2.size)
        have gs1 := G1.size
        have gs2 := K2.size
        first
          | exact ⟨_, _, _, _, _, _, _, rfl, rfl, bo_new f1 f2, (BY.below G2).below (box_below v2 _), KK.trans ((box_below v2 _).mono KK.size)⟩
          | exact ⟨_, _, _, _, _, _, _, rfl, rfl, bo_set f1 f2 (by simp) zz2, (BY.below G2).other (by omega) zz2, below_set2 _ _ _ _ KK (by omega) (Nat.le_refl _)⟩
          | exact ⟨_, _, _, _, _, _, _, rfl, rfl, bo_set f1 f2 (by have := j1.size; simp at this; omega) zz2, (BY.below G2).other (by omega) zz2, below_set2 _ _ _ _ KK (by omega) (Nat.le_refl _)⟩
  case rest =>
    clear ALLS cS cR BY LY K2
    obtain ⟨gA, oA, nA, cA, pA, mA, dA, rfl, rfl, BA, BY, KC⟩ := hcut
    have M0 : Mv w wc xo xn xs gA oA nA cA pA mA dA S A so sn sc ao an ac sy ay := ⟨BA, BY, hx.below KC (Nat.le_refl _), KC⟩
    obtain ⟨c0, c1⟩ := BY.all
    have cM := hmay wc KC
    clear hmay BA BY KC
    go_upto_region 9 with (go_at_call 7; (with_reducible refine cM.mono ?_); rintro e U ⟨rfl, k5⟩; have MU := M0.below k5)
    clear M0 cM k5 c0 c1
    have NM := nmd_made U sn
    have bN := box_below U (.cells (madeCells #[.bool false] sn) 4)
    generalize U.alloc (.cells (madeCells #[.bool false] sn) 4) = UN at *
    have N1 : Nmd UN U.heap.size sn (fun i => (sen sn xs 0).contains i) := NM
    go_wp2
    go_loopw [10] (fun a V => ∃ k : Nat, k ≤ xn ∧ a = .int .i64 (k : Nat) ∧ Nmd V U.heap.size sn (fun i => (sen sn xs k).contains i) ∧ Below U.heap.size U V) (fun a _ => xn - (intOf a).toNat)
    case atStart => exact ⟨0, Nat.zero_le _, rfl, N1, bN⟩
    case round =>
      clear N1 NM bN
      obtain ⟨k, hk, rfl, NN, bel⟩ := hrel
      have MW := MU.below bel
      by_cases hlt : k < xn
      · obtain ⟨g1, g2, g3⟩ := HG.out k (by rw [HL.out]; exact hlt)
        obtain ⟨b, off, rfl, hb, hc⟩ := MW.x.cells (by omega)
        have cz := hc k hlt
        clear hc
        have hni : nrm sn (nth xs k) < sn := by unfold nrm; split <;> omega
        have hnz : (nth xs k < 0 ∧ nth xs k + (sn : Int) = (nrm sn (nth xs k) : Nat)) ∨ (0 ≤ nth xs k ∧ nth xs k = (nrm sn (nth xs k) : Nat)) := by unfold nrm; split <;> omega
        have HES : Hid (sen sn xs (k + 1) = sen sn xs k ++ [nrm sn (nth xs k)]) := sen_succ (by rw [HL.out]; exact hlt)
        generalize hi : nrm sn (nth xs k) = i at *
        clear hi
        generalize nth xs k = z at *
        obtain ⟨p1, p2⟩ := NN.cell hni
        rw [g3] at p1
        have bi : (i : Int) < (sn : Int) := by omega
        have N2 := NN.set hni (P' := fun j => (sen sn xs (k + 1)).contains j) (fun j hj => by
          rw [HES.out]
          by_cases e : j = i
          · rw [if_pos e, e]; simp
          · rw [if_neg e]; simp [e])
        have bel2 := bel.setCell (p := ⟨U.heap.size, i, none⟩) (Nat.le_refl _) (.bool true)
        have t2 : decide (z < -(sn : Int)) = false := by simp; omega
        have t2' : ¬ z < -(sn : Int) := by omega
        have t3 : decide ((sn : Int) ≤ z) = false := by simp; omega
        have t3' : ¬ (sn : Int) ≤ z := by omega
        rcases hnz with ⟨hneg, hsum⟩ | ⟨hpos, hz⟩
        · have t4 : decide (z < 0) = true := by simp; omega
          clear g1 g2 g3 MW HES
          go_wp2
          go_roundw
          case rel => exact ⟨k + 1, by omega, by go_num, N2, bel2⟩
          case measure => simp [intOf]; omega
        · have t4 : decide (z < 0) = false := by simp; omega
          have t4' : ¬ z < 0 := by omega
          subst hz
          clear g1 g2 g3 MW HES
          go_wp2
          go_roundw
          case rel => exact ⟨k + 1, by omega, by go_num, N2, bel2⟩
          case measure => simp [intOf]; omega
      · obtain rfl : k = xn := by omega
        obtain ⟨SS, hSS⟩ : ∃ SS, sen sn xs k = SS := ⟨_, rfl⟩
        have HSS : Hid (sen sn xs k = SS) := hSS
        rw [hSS] at NN
        have HPI : Hid (prm sn xs = rst SS sn ++ SS) := by show _ = _; unfold prm; rw [HL.out, hSS]
        have SL : SS.length = k := by rw [← hSS]; exact sen_len (by rw [HL.out]; exact Nat.le_refl _)
        clear hSS hlt
        obtain ⟨V1, hV1⟩ : ∃ V, V = wr := ⟨_, rfl⟩
        subst hV1
        have F0 : Ft 2 V1 V1.heap.size none 0 0 (ctI (rst SS 0)) := Ft.nil _ _ _
        go_wp2
        go_loopw [12, 9] (fun a b V => ∃ (j : Nat) (o : Option Addr) (c : Nat), j ≤ sn ∧ a = .int .i64 (j : Nat) ∧ b = .slice o (rst SS j).length c ∧ Ft 2 V V1.heap.size o (rst SS j).length c (ctI (rst SS j)) ∧ Below V1.heap.size V1 V) (fun a _ _ => sn - (intOf a).toNat)
        case atStart => exact ⟨0, none, 0, Nat.zero_le _, rfl, rfl, F0, Below.refl _ _⟩
        case round =>
          clear F0
          obtain ⟨j, o, c, hj, rfl, rfl, FF, belJ⟩ := hrel
          have NJ := NN.below belJ
          by_cases hjt : j < sn
          · obtain ⟨p1, p2⟩ := NJ.cell hjt
            have HRS : Hid (rst SS (j + 1) = rst SS j ++ (if SS.contains j then [] else [j])) := rst_succ SS j
            have rl := rst_len SS j
            have bj : (j : Int) < (sn : Int) := by omega
            cases hcj : SS.contains j with
            | true =>
              rw [hcj] at p1
              have HR2 : Hid (rst SS (j + 1) = rst SS j) := by have := HRS.out; rw [hcj] at this; show _ = _; simpa using this
              clear HRS hcj
              go_wp2
              go_roundw
              case rel => exact ⟨j + 1, o, c, by omega, by go_num, by rw [HR2.out], by rw [HR2.out]; exact FF, belJ⟩
              case measure => simp [intOf]; omega
            | false =>
              rw [hcj] at p1
              have HR2 : Hid (rst SS (j + 1) = rst SS j ++ [j]) := by have := HRS.out; rw [hcj] at this; show _ = _; simpa using this
              clear HRS hcj
              have F1 := new1 wr (j : Int) (by omega) (by omega) 2
              have kb := box_below wr (.cells #[.int .i64 (j : Int)] 2)
              have FF1 := FF.below kb (Nat.le_refl _)
              have hB1 : V1.heap.size ≤ (wr.alloc (.cells #[.int .i64 (j : Int)] 2)).heap.size := by simp; have := belJ.size; omega
              generalize (rst SS j).length = rn at *
              go_wp2_with (at_builtin; refine wpList_joinT tyL rfl _ _ rfl V1.heap.size o (some ⟨wr.heap.size, 0, none⟩) rn c 1 1 (ctI (rst SS j)) [(j : Int)] rfl rfl FF1 F1.rd F1.sl (by omega) hB1 ?_; intro co3 c3 w7 f7 b7)
              go_roundw
              case rel =>
                have hl2 : (rst SS (j + 1)).length = rn + 1 := by
                  have := f7.rd.len
                  rw [HR2.out, List.length_append, List.length_singleton]
                  rw [List.length_append, ctI_len] at this
                  simp at this
                  omega
                refine ⟨j + 1, co3, c3, by omega, by go_num, by rw [hl2], ?_, (belJ.trans (kb.mono (belJ.size))).trans b7⟩
                rw [hl2, HR2.out, ctI_app]; exact f7
              case measure => simp [intOf]; omega
          · obtain rfl : j = sn := by omega
            clear hjt
            obtain ⟨V2, hV2⟩ : ∃ V, V = wr := ⟨_, rfl⟩
            subst hV2
            obtain ⟨RR, hRR⟩ : ∃ RR, rst SS j = RR := ⟨_, rfl⟩
            rw [hRR] at FF HPI ⊢
            clear hRR
            have RL : RR.length + k = j := by
              have := HG.out.perm.length_eq
              rw [HPI.out, List.length_append, SL, List.length_range] at this
              exact this
            have M2 := (MU.below bel).below belJ
            have F3 : Ft 2 V2 V1.heap.size o (RR.length + 0) c (ctI (RR ++ sen j xs 0)) := by rw [show sen j xs 0 = [] from rfl, List.append_nil]; exact FF
            go_wp2
            go_loopw [13, 9] (fun a b V => ∃ (q : Nat) (o : Option Addr) (c : Nat), q ≤ k ∧ a = .int .i64 (q : Nat) ∧ b = .slice o (RR.length + q) c ∧ Ft 2 V V1.heap.size o (RR.length + q) c (ctI (RR ++ sen j xs q)) ∧ Below V1.heap.size V1 V) (fun a _ _ => k - (intOf a).toNat)
            case atStart => exact ⟨0, o, c, Nat.zero_le _, rfl, rfl, F3, belJ⟩
            case round =>
              clear F3 FF
              obtain ⟨q, o, c, hq, rfl, rfl, FF, belQ⟩ := hrel
              by_cases hqt : q < k
              · have MQ := (MU.below bel).below belQ
                obtain ⟨g1, g2, g3⟩ := HG.out q (by rw [HL.out]; exact hqt)
                obtain ⟨b, off, rfl, hb, hc⟩ := MQ.x.cells (by omega)
                have cz := hc q hqt
                clear hc g3
                have hni : nrm j (nth xs q) < j := by unfold nrm; split <;> omega
                have hnz : (nth xs q < 0 ∧ nth xs q + (j : Int) = (nrm j (nth xs q) : Nat)) ∨ (0 ≤ nth xs q ∧ nth xs q = (nrm j (nth xs q) : Nat)) := by unfold nrm; split <;> omega
                have HES : Hid (sen j xs (q + 1) = sen j xs q ++ [nrm j (nth xs q)]) := sen_succ (by rw [HL.out]; exact hqt)
                generalize hi : nrm j (nth xs q) = i at *
                clear hi
                generalize nth xs q = z at *
                have hmod : Int.tmod (z + (j : Int)) (j : Int) = (i : Int) := by
                  rw [Int.tmod_eq_emod_of_nonneg (by omega)]
                  rcases hnz with ⟨h1, h2⟩ | ⟨h1, h2⟩
                  · rw [h2]; exact Int.emod_eq_of_lt (by omega) (by omega)
                  · rw [h2, Int.add_emod_right]; exact Int.emod_eq_of_lt (by omega) (by omega)
                have hmod2 : (z + (j : Int)) % (j : Int) = (i : Int) := by rw [← Int.tmod_eq_emod_of_nonneg (by omega)]; exact hmod
                have j0 : ¬ (j : Int) = 0 := by omega
                have j0' : ¬ j = 0 := by omega
                have F1 := new1 wr (i : Int) (by omega) (by omega) 2
                have kb := box_below wr (.cells #[.int .i64 (i : Int)] 2)
                have FF1 := FF.below kb (Nat.le_refl _)
                have hB1 : V1.heap.size ≤ (wr.alloc (.cells #[.int .i64 (i : Int)] 2)).heap.size := by simp; have := belQ.size; omega
                have bq : (q : Int) < (k : Int) := by omega
                have hzb : -8 ≤ z ∧ z ≤ 8 := by omega
                have R8 : RR.length ≤ 8 := by omega
                clear hnz hni g1 g2 MQ
                obtain ⟨rq, hrq⟩ : ∃ rq, RR.length + q = rq := ⟨_, rfl⟩
                have HRQ : Hid (RR.length + q = rq) := hrq
                have rqb : rq ≤ 100 := by omega
                rw [hrq] at FF1 ⊢
                clear hrq
                go_wp2_with (at_builtin; refine wpList_joinT tyL rfl _ _ rfl V1.heap.size o (some ⟨wr.heap.size, 0, none⟩) rq c 1 1 (ctI (RR ++ sen j xs q)) [(i : Int)] rfl rfl FF1 F1.rd F1.sl (by omega) hB1 ?_; intro co3 c3 w7 f7 b7)
                go_roundw
                case rel =>
                  have e := HRQ.out
                  refine ⟨q + 1, co3, c3, by omega, by go_num, by rw [show RR.length + (q + 1) = rq + 1 by omega], ?_, (belQ.trans (kb.mono belQ.size)).trans b7⟩
                  rw [show RR.length + (q + 1) = rq + 1 by omega, HES.out, ← List.append_assoc, ctI_app (RR ++ sen j xs q)]; exact f7
                case measure => simp [intOf]; omega
              · obtain rfl : q = k := by omega
                clear hqt hq
                have M3 := (MU.below bel).below belQ
                have K3 := M3.bel
                obtain ⟨V3, hV3⟩ : ∃ V, V = wr := ⟨_, rfl⟩
                subst hV3
                obtain ⟨PI, hPI⟩ : ∃ PI, prm j xs = PI := ⟨_, rfl⟩
                rw [HSS.out, ← HPI.out, hPI, RL] at FF
                rw [RL]
                have HP : Hid (PI.Perm (List.range j)) := by show _; rw [← hPI]; exact HG.out.perm
                have PL : Hid (PI.length = j) := by have := HP.out.length_eq; rw [List.length_range] at this; exact this
                rw [hPI] at hS hback
                have HS : Hid (S = PI.map (nth sy)) := hS
                clear hS hPI HPI HSS RL HG SL NN NJ MU M2 bel belJ belQ V2
                have F4 := made_ftT 2 V3 j (by omega)
                have k4 := box_below V3 (.cells (madeCells #[.int .i64 0] j) 2)
                have G4 : Ft 3 (V3.alloc (.cells (madeCells #[.int .i64 0] j) 2)) (V3.heap.size + 1) none 0 0 ((PI.take 0).map (nth sy)) := Ft.nil _ _ _
                go_wp2
                go_loopw [16, 15] (fun a b V => ∃ (i : Nat) (Bl : List Int) (o : Option Addr) (c : Nat), i ≤ j ∧ a = .int .i64 (i : Nat) ∧ b = .slice o i c ∧ Ft 2 V V3.heap.size (some ⟨V3.heap.size, 0, none⟩) j j Bl ∧ (∀ m, m < i → nth Bl (PI.getD m 0) = (m : Int)) ∧ Ft 3 V (V3.heap.size + 1) o i c ((PI.take i).map (nth sy)) ∧ Below V3.heap.size V3 V) (fun a _ _ => j - (intOf a).toNat)
                case atStart => exact ⟨0, _, none, 0, Nat.zero_le _, rfl, rfl, F4, fun m hm => absurd hm (Nat.not_lt_zero _), G4, k4⟩
                case round =>
                  clear F4 G4 k4
                  obtain ⟨i, Bl, so', sc', hi, rfl, rfl, FB, HB, FS, belI⟩ := hrel
                  have hsz := belI.size
                  have lB := (FB.at _ _ rfl).2
                  by_cases hit : i < j
                  · have LOW : ∀ V, Below V3.heap.size V3 V → ∃ b off bs os, o = some ⟨b, off, none⟩ ∧ so = some ⟨bs, os, none⟩ ∧ V.cell? ⟨b, off + i, none⟩ = some (.int .i64 (PI.getD i 0 : Nat)) ∧ V.cell? ⟨bs, os + PI.getD i 0, none⟩ = some (.int .i64 (nth sy (PI.getD i 0))) ∧ V.cell? ⟨w.heap.size, 0, none⟩ = some (.slice so j sc) := by
                      intro V k
                      obtain ⟨b, off, e1, hb, hc⟩ := (FF.below k (Nat.le_refl _)).rd.cells (by omega)
                      obtain ⟨bs, os, e2, hb2, hc2⟩ := (M3.below k).y.s.cells (by omega)
                      refine ⟨b, off, bs, os, e1, e2, ?_, hc2 _ (perm_lt HP.out hit), (M3.below k).y.all.1⟩
                      have := hc i hit
                      rwa [nth_ctI (by rw [PL.out]; exact hit)] at this
                    have NY := (M3.y.s).num _ (perm_lt HP.out hit)
                    have HZ := perm_lt HP.out hit
                    have HB2 := bck_set HP.out hit FB.rd.len HB
                    have HT : Hid ((PI.take (i + 1)).map (nth sy) = (PI.take i).map (nth sy) ++ [nth sy (PI.getD i 0)]) := by show _; rw [takeN (by rw [PL.out]; exact hit), List.map_append]; rfl
                    have FB2 := FB.setT (PI.getD i 0) HZ (i : Int) (by omega) (by omega)
                    obtain ⟨uu, q1, q2⟩ := FB.slot HZ
                    generalize PI.getD i 0 = z at *
                    generalize nth sy z = yv at *
                    obtain ⟨b, off, bs, os, e1, e2, p1, _⟩ := LOW _ belI
                    subst e1 e2
                    have LO : ∀ V, Below V3.heap.size V3 V → V.cell? ⟨b, off + i, none⟩ = some (.int .i64 (z : Nat)) ∧ V.cell? ⟨bs, os + z, none⟩ = some (.int .i64 yv) ∧ V.cell? ⟨w.heap.size, 0, none⟩ = some (.slice (some ⟨bs, os, none⟩) j sc) ∧ Below V3.heap.size V3 V := fun V k => by
                      obtain ⟨b', off', bs', os', e1, e2, h1, h2, h3⟩ := LOW V k
                      cases e1
                      cases e2
                      exact ⟨h1, h2, h3, k⟩
                    clear LOW
                    have bz : (z : Int) < (j : Int) := by omega
                    have bi : (i : Int) < (j : Int) := by omega
                    have belS := belI.setCell (p := ⟨V3.heap.size, z, none⟩) (Nat.le_refl _) (.int .i64 (i : Int))
                    have FS2 : Ft 3 (wr.setCell ⟨V3.heap.size, z, none⟩ (.int .i64 (i : Int))) (V3.heap.size + 1) so' i sc' ((PI.take i).map (nth sy)) := ft_keptB FS fun g eg => Below.heap_setCell _ _ _ _ (by have := (FS.at _ _ eg).1; intro e; simp at e; omega)
                    clear FS
                    go_upto_region 35 with fail
                    generalize wr.setCell ⟨V3.heap.size, z, none⟩ (.int .i64 (i : Int)) = W6 at *
                    have lB2 := (FB2.at _ _ rfl).2
                    have LIT := new1 W6 yv NY.1 NY.2 3
                    have kb := (box_below W6 (.cells #[.int .i64 yv] 3)).drew
                    have FX := FS2.below kb (Nat.le_refl _)
                    have FBX := FB2.below kb (Nat.le_refl _)
                    have LR := LIT.rd.below ((Below.refl _ _).drew) (Nat.le_refl _)
                    have bX0 := belS.drew
                    have bX1 := belS.trans (kb.mono belS.size)
                    have hB1 : V3.heap.size + 1 ≤ (W6.alloc (.cells #[.int .i64 yv] 3)).drew.heap.size := by have := kb.size; omega
                    clear FB FB2 FS2 q1 q2 uu p1 NY
                    go_region_held3 (fun V => V.cell? ⟨b, off + i, none⟩ = some (.int .i64 (z : Nat)) ∧ V.cell? ⟨bs, os + z, none⟩ = some (.int .i64 yv) ∧ V.cell? ⟨w.heap.size, 0, none⟩ = some (.slice (some ⟨bs, os, none⟩) j sc) ∧ Below V3.heap.size V3 V) (first | exact LO _ (by assumption) | exact LO _ bX0 | exact LO _ bX1)
                      (first
                        | (refine step_joinB tyI rfl (.tmp 139) (.tmp 148) rfl (V3.heap.size + 1) (i + 1) so' (some ⟨W6.heap.size, 0, none⟩) i sc' 1 1 _ [yv] rfl rfl rfl FX LR LIT.sl (by omega) hB1 ?_; intro co3 c3 w7 f7 b7; have B7 := bX1.trans (b7.mono (Nat.le_succ _))))
                    go_wp2
                    go_roundw
                    case rel => exact ⟨i + 1, _, co3, c3, by omega, by go_num, rfl, ft_keptB FBX (fun g eg => by cases eg; exact b7.block _ (Nat.lt_succ_self _)), HB2, by rw [HT.out]; exact f7, B7⟩
                    case measure => simp [intOf]; omega
                  · obtain rfl : i = j := by omega
                    have BK : Bck i PI Bl := ⟨FB.rd.len, HB⟩
                    rw [show PI.take i = PI from List.take_of_length_le (Nat.le_of_eq PL.out), ← HS.out] at FS
                    have M5 := M3.below belI
                    have K5 := M5.bel
                    clear hit hi HB
                    obtain ⟨V5, hV5⟩ : ∃ V, V = wr := ⟨_, rfl⟩
                    subst hV5
                    have cb := hback Bl BK
                    clear hback BK HS HP PL FF
                    have ALL5 : ∀ V, Below V5.heap.size V5 V → V.cell? ⟨gA, 0, none⟩ = some (.slice oA nA cA) ∧ V.cell? ⟨gA, 1, none⟩ = some (.slice pA mA dA) ∧ V.cell? ⟨w.heap.size, 0, none⟩ = some (.slice so i sc) ∧ V.cell? ⟨w.heap.size, 1, none⟩ = some (.slice ao an ac) ∧ Below V5.heap.size V5 V := fun V k => ⟨(M5.below k).a.all.1, (M5.below k).a.all.2, (M5.below k).y.all.1, (M5.below k).y.all.2, k⟩
                    have cE : ∀ V, Below V5.heap.size V5 V → Calls Tryz.prog 8 #[.slice oA nA cA, .slice so' i sc'] V fun e w' => e = .returned (.bool true) ∧ Below V5.heap.size V5 w' := fun V k => by
                      refine (eqInts_any oA so' nA i cA sc' S S V (M5.below k).a.s (FS.below k (Nat.le_refl _)).rd).mono ?_
                      rintro e w' ⟨rfl, n, rfl⟩
                      exact ⟨by rw [eqB_refl], below_drewN k n⟩
                    have cL : ∀ V, Below V5.heap.size V5 V → Calls Tryz.prog 6 #[.slice (some ⟨V3.heap.size, 0, none⟩) i i] V fun e w' => ∃ o1 o2 c2, e = .returned (.agg #[.slice (some o1) 1 1, .slice o2 i c2]) ∧ Rd w' (some o1) 1 [(i : Int)] ∧ Rd w' o2 i Bl ∧ Below V5.heap.size V5 w' := fun V k => by
                      refine (list6_gen (some ⟨V3.heap.size, 0, none⟩) i i Bl V (FB.below k (Nat.le_refl _)).rd FB.sl).mono ?_
                      rintro e w' ⟨o1, o2, c2, rfl, f1, f2, k2⟩
                      exact ⟨o1, o2, c2, rfl, f1.rd, f2.rd, k.trans (k2.mono k.size)⟩
                    have cB : ∀ V o1 o2 c2, Below V5.heap.size V5 V → Rd V (some o1) 1 [(i : Int)] → Rd V o2 i Bl → Calls Tryz.prog 9 #[.int .i64 33, .agg #[.slice (some o1) 1 1, .slice o2 i c2], .agg #[.slice oA nA cA, .slice pA mA dA], .agg #[.slice so i sc, .slice ao an ac]] V fun e w' => e = .returned (.bool true) ∧ Below V5.heap.size V5 w' := fun V o1 o2 c2 k h1 h2 => by
                      refine (both_is 33 (some o1) o2 oA pA so ao 1 1 i c2 nA cA mA dA i sc an ac sy ay V (M5.below k).y.s (M5.below k).y.a (fun V2 k2 => cb V2 o1 o2 c2 oA nA cA pA mA dA (h1.below k2 (Nat.le_refl _)) (h2.below k2 (Nat.le_refl _)) ((M5.below k).below k2).a.s ((M5.below k).below k2).a.a)).mono ?_
                      rintro e w' ⟨rfl, k2⟩
                      exact ⟨rfl, k.trans (k2.mono k.size)⟩
                    clear FS FB cb M3 M5
                    have bD := (Below.refl V5.heap.size V5).drew
                    go_upto_region 36 with fail
                    go_region_held3 (fun V => V.cell? ⟨gA, 0, none⟩ = some (.slice oA nA cA) ∧ V.cell? ⟨gA, 1, none⟩ = some (.slice pA mA dA) ∧ V.cell? ⟨w.heap.size, 0, none⟩ = some (.slice so i sc) ∧ V.cell? ⟨w.heap.size, 1, none⟩ = some (.slice ao an ac) ∧ Below V5.heap.size V5 V) (first | exact ALL5 _ (by assumption) | exact ALL5 _ bD)
                      (first
                        | (go_at_call 8; (with_reducible refine (cE V5.drew bD).mono ?_); rintro e w6 ⟨rfl, B6⟩)
                        | (go_at_call 6; (with_reducible refine (cL w6 B6).mono ?_); rintro e w7 ⟨o1, o2, c2, rfl, r1, r2, B7⟩)
                        | (go_at_call 9; (with_reducible refine (cB w7 o1 o2 c2 B7 r1 r2).mono ?_); rintro e w8 ⟨rfl, B8⟩))
                    go_wp2
                    go_ret
                    exact ⟨rfl, K5.trans (B8.mono K5.size)⟩
end Go.Proofs.YtldhochafkcpiaaGreat
