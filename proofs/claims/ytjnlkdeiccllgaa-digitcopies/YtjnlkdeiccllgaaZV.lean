
/- DigitCopies: the law itself. -/

import Derived.Test.YtjnlkdeiccllgaaZU

namespace Go.Proofs.Ytjnlkdeiccllgaa

open Go.RowKit

set_option linter.unusedVariables false

set_option maxHeartbeats 1000000 in
set_option maxRecDepth 20000 in
theorem copiesL_long (xo : Option Addr) (n xc : Nat) (xs : List Int) (so ao : Option Addr) (sn sc an ac : Nat) (sy ay : List Int) (w : World) (hx : Rd w xo n xs) (lx : Sl xo n xc) (hs : Rd w so sn sy) (ls : Sl so sn sc) (ha : Rd w ao an ay) (la : Sl ao an ac) (hn : 4096 < n) :
    Calls Try.prog 4 #[.slice xo n xc, .agg #[.slice so sn sc, .slice ao an ac]] w fun e w' => e = .returned (.bool true) ∧ Below w.heap.size w w' := by
  have k0 := box_below w (.cells #[.slice so sn sc, .slice ao an ac] 26)
  have cG := begun8_any (w.alloc (.cells #[.slice so sn sc, .slice ao an ac] 26))
  have t1 : decide (4096 < n) = true := by simpa using hn
  have t2 : (4096 : Int) < (n : Int) := by omega
  go_enter Try.func4, Try.ntmps4
  go_wp2_with (go_at_call 7; (with_reducible refine cG.mono ?_); rintro e w1 ⟨rfl, k1⟩)
  go_ret
  exact ⟨rfl, k0.trans (k1.mono k0.size)⟩

set_option maxHeartbeats 16000000 in
set_option maxRecDepth 20000 in
theorem copiesL_any (xo : Option Addr) (n xc : Nat) (xs : List Int) (so ao : Option Addr) (sn sc an ac : Nat) (sy ay : List Int) (w : World) (hx : Rd w xo n xs) (lx : Sl xo n xc) (hs : Rd w so sn sy) (ls : Sl so sn sc) (ha : Rd w ao an ay) (la : Sl ao an ac) (hn : n ≤ 4096) :
    Calls Try.prog 4 #[.slice xo n xc, .agg #[.slice so sn sc, .slice ao an ac]] w fun e w' => e = .returned (.bool true) ∧ Below w.heap.size w w' := by
  have k0 := box_below w (.cells #[.slice so sn sc, .slice ao an ac] 26)
  have cG := begun8_any (w.alloc (.cells #[.slice so sn sc, .slice ao an ac] 26))
  have t1 : decide (4096 < n) = false := by simp; omega
  have t2 : ¬ (4096 : Int) < (n : Int) := by omega
  have HLX : Hid (xs.length = n) := hx.len
  have BY0 : Bq (w.alloc (.cells #[.slice so sn sc, .slice ao an ac] 26)) w.heap.size so sn sc ao an ac sy ay := bq_new hs ha
  have mL : mayA [(n : Int)] xs = 0 := mayA_list hn hx.len
  have mR : mayA [(n : Int)] (rgL n) = 0 := mayA_list hn (rgL_len n)
  have cW : ∀ V o1 c1 o2 c2, Rd V (some o1) 1 [(n : Int)] → Rd V o2 n xs → Sl o2 n c2 → Calls Try.prog 8 #[.int .i64 43, .agg #[.slice (some o1) 1 c1, .slice o2 n c2]] V fun e w' => AnsQ V (fun S A => S = cpS [(n : Int)] xs [(n : Int)] ∧ A = cpA [(n : Int)] xs [(n : Int)] (rgL n)) (cpE [(n : Int)] xs [(n : Int)]) e w' := fun V o1 c1 o2 c2 h1 h2 h3 =>
    monadZ_43 (some o1) o2 1 c1 n c2 [(n : Int)] xs _ _ V h1 h2 mL (by omega) (fun U k => where_any (some o1) o2 1 c1 n c2 [(n : Int)] xs U (h1.below k (Nat.le_refl _)) (h2.below k (Nat.le_refl _)) h3 mL)
  have cI : ∀ V o c, Rd V o 1 [(n : Int)] → Calls Try.prog 8 #[.int .i64 34, .agg #[.slice none 0 0, .slice o 1 c]] V fun e w' => AnsQ V (fun S A => S = [(n : Int)] ∧ A = rgL n) 0 e w' := fun V o c f => by
    have := iota_sc o c (n : Int) V f (by omega)
    rw [blw_rg] at this
    exact this
  have cC : ∀ V o1 c1 o2 c2 o3 n3 c3 o4 n4 c4, Rd V (some o1) 1 [(n : Int)] → Rd V o2 n xs → Sl o2 n c2 → Rd V o3 n3 [(n : Int)] → Sl o3 n3 c3 → Rd V o4 n4 (rgL n) → Sl o4 n4 c4 → Calls Try.prog 12 #[.int .i64 22, .agg #[.slice (some o1) 1 c1, .slice o2 n c2], .agg #[.slice o3 n3 c3, .slice o4 n4 c4]] V fun e w' => AnsQ V (fun S A => S = cpS [(n : Int)] xs [(n : Int)] ∧ A = cpA [(n : Int)] xs [(n : Int)] (rgL n)) (cpE [(n : Int)] xs [(n : Int)]) e w' := fun V o1 c1 o2 c2 o3 n3 c3 o4 n4 c4 h1 h2 h3 h4 h5 h6 h7 =>
    dyadZ_22 (some o1) o2 o3 o4 1 c1 n c2 n3 c3 n4 c4 [(n : Int)] xs [(n : Int)] (rgL n) _ _ V h1 h2 h4 h6 mL mR (by omega) (by have := h4.len; simp at this; omega) (fun U k => copies_any (some o1) o2 o3 o4 1 c1 n c2 n3 c3 n4 c4 [(n : Int)] xs [(n : Int)] (rgL n) U (h1.below k (Nat.le_refl _)) (h2.below k (Nat.le_refl _)) h3 (h4.below k (Nat.le_refl _)) h5 (h6.below k (Nat.le_refl _)) h7 mL mR)
  have cSn := fun V => scalar8_any (n : Int) V (by omega) (by omega)
  generalize cpS [(n : Int)] xs [(n : Int)] = S1 at *
  generalize cpA [(n : Int)] xs [(n : Int)] (rgL n) = A1 at *
  generalize cpE [(n : Int)] xs [(n : Int)] = E1 at *
  go_enter Try.func4, Try.ntmps4
  go_upto_region 7 with (first
    | (go_at_call 7; (with_reducible refine cG.mono ?_); rintro e w1 ⟨rfl, k1⟩; have K1 := k0.trans (k1.mono k0.size); have BY1 := BY0.below k1; have cL1 := list8_any xo n xc xs w1 (hx.below K1 (Nat.le_refl _)) lx (by omega))
    | (go_at_call 9; (with_reducible refine cL1.mono ?_); rintro e w2 ⟨o1, c1, o2, c2, rfl, fs2, fa2, k2⟩; have K2 := K1.trans (k2.mono K1.size); have BY2 := BY1.below k2)
    | (go_at_call 8; (with_reducible refine (cW w2 _ _ _ _ fs2.rd fa2.rd fa2.sl).mono ?_); rintro e w3 ⟨pA, nA, cA, qA, mA, dA, S3, A3, rfl, f3, g3, ⟨rfl, rfl⟩, k3⟩; have K3 := K2.trans (k3.mono K2.size); have BY3 := BY2.below k3; have kb3 := box_below w3 (.cells #[.slice pA nA cA, .slice qA mA dA] 26); have K3b := K3.trans (kb3.mono K3.size); have BY3b := BY3.below kb3; have BA3 := bq_new (c1 := cA) (c2 := dA) f3.rd g3.rd)
    | (go_at_call 11; (with_reducible refine (cSn (w3.alloc (.cells #[.slice pA nA cA, .slice qA mA dA] 26))).mono ?_); rintro e w4 ⟨o4, c4, rfl, f4, k4⟩; have K4 := K3b.trans (k4.mono K3b.size); have BY4 := BY3b.below k4; have BA4 := BA3.below k4)
    | (go_at_call 8; (with_reducible refine (cI w4 _ _ f4.rd).mono ?_); rintro e w5 ⟨pB, nB, cB, qB, mB, dB, S5, A5, rfl, f5, g5, ⟨rfl, hA5⟩, k5⟩; have K5 := K4.trans (k5.mono K4.size); have BY5 := BY4.below k5; have BA5 := BA4.below k5; have kb5 := box_below w5 (.cells #[.slice pB nB cB, .slice qB mB dB] 26); have K6 := K5.trans (kb5.mono K5.size); have BY6 := BY5.below kb5; have BA6 := BA5.below kb5; have BB6 := bq_new (c1 := cB) (c2 := dB) f5.rd g5.rd; have LB1 := f5.sl; have LB2 := g5.sl))
  rw [hA5] at BB6
  generalize hW6 : w5.alloc (.cells #[.slice pB nB cB, .slice qB mB dB] 26) = W6 at *
  generalize w5.heap.size = gY at *
  generalize w3.heap.size = gA0 at *
  clear hW6 hA5 k0 k1 k2 k3 kb3 k4 k5 kb5 K1 K2 K3 K3b K4 K5 BY0 BY1 BY2 BY3 BY3b BY4 BY5 BA3 BA4 BA5 f3 g3 f4 f5 g5 fs2 fa2 cL1 cG cW cI cSn
  have XX : ∀ V, Below W6.heap.size W6 V → Rd V xo n xs := fun V k => (hx.below K6 (Nat.le_refl _)).below k (Nat.le_refl _)
  have cL := fun V (k : Below W6.heap.size W6 V) => list8_any xo n xc xs V (XX V k) lx (by omega)
  have ALLS : ∀ V, Below W6.heap.size W6 V → V.cell? ⟨gY, 0, none⟩ = some (.slice pB nB cB) ∧ V.cell? ⟨gY, 1, none⟩ = some (.slice qB mB dB) ∧ Below W6.heap.size W6 V := fun V j => ⟨(BB6.below j).c.1, (BB6.below j).c.2, j⟩
  go_cut [9, 10] from 39 to 45 (fun s1 s2 V => ∃ gA oA nA cA pA mA dA, s1 = .pointer (some ⟨gA, 0, none⟩) ∧ s2 = .int .i64 E1 ∧ Bq V gA oA nA cA pA mA dA S3 A3 ∧ Below W6.heap.size W6 V)
  case first =>
    go_region_held3 (fun V => V.cell? ⟨gY, 0, none⟩ = some (.slice pB nB cB) ∧ V.cell? ⟨gY, 1, none⟩ = some (.slice qB mB dB) ∧ Below W6.heap.size W6 V) (first | exact ALLS _ (by assumption) | exact ALLS _ (Below.refl _ _).drew | exact ALLS _ (box_below W6 _).drew | exact ALLS _ (G1.alloc G1.size _) | exact ALLS _ (G2.alloc G2.size _) | exact ALLS _ (below_set2 _ _ _ _ G2 (by first | exact Nat.le_refl _ | exact G1.size | exact G2.size) (Nat.le_refl _)))
      (first
        | (go_at_call 9; (with_reducible refine (cL (W6.alloc (.cells #[.slice none 0 0, .slice none 0 0] 26)).drew (box_below W6 _).drew).mono ?_); rintro e v1 ⟨y1, y2, y3, y4, rfl, fs, fa, j1⟩; have G1 : Below W6.heap.size W6 v1 := (box_below W6 _).drew.trans (j1.mono (by simp)); have zz1 := (j1.block W6.heap.size (by simp)).trans (allocNew W6 (.cells #[.slice none 0 0, .slice none 0 0] 26)))
        | (go_at_call 9; (with_reducible refine (cL W6.drew (Below.refl _ _).drew).mono ?_); rintro e v1 ⟨y1, y2, y3, y4, rfl, fs, fa, j1⟩; have G1 : Below W6.heap.size W6 v1 := (Below.refl _ W6).drew.trans j1)
        | (go_at_call 12; (with_reducible refine (cC v1 _ _ _ _ _ _ _ _ _ _ fs.rd fa.rd fa.sl (BB6.below G1).s LB1 (BB6.below G1).a LB2).mono ?_); rintro e v2 ⟨oA, nA, cA, pA, mA, dA, S9, A9, rfl, f1, f2, ⟨rfl, rfl⟩, j2⟩; have G2 := G1.trans (j2.mono G1.size); (try (have zz2 := (j2.block _ (Array.getElem?_eq_some_iff.1 zz1).1).trans zz1; obtain ⟨w0', w1', w2', w3'⟩ := box2 zz2)))
        | (go_at_call 12; (with_reducible refine (cC (v1.alloc (.cells #[.slice none 0 0, .slice none 0 0] 26)) _ _ _ _ _ _ _ _ _ _ (fs.rd.below (box_below v1 _) (Nat.le_refl _)) (fa.rd.below (box_below v1 _) (Nat.le_refl _)) fa.sl (BB6.below (G1.alloc G1.size _)).s LB1 (BB6.below (G1.alloc G1.size _)).a LB2).mono ?_); rintro e v2 ⟨oA, nA, cA, pA, mA, dA, S9, A9, rfl, f1, f2, ⟨rfl, rfl⟩, j2⟩; have G2 := (G1.alloc G1.size (.cells #[.slice none 0 0, .slice none 0 0] 26)).trans (j2.mono (G1.alloc G1.size (.cells #[.slice none 0 0, .slice none 0 0] 26)).size); have zz2 := (j2.block v1.heap.size (by simp)).trans (allocNew v1 (.cells #[.slice none 0 0, .slice none 0 0] 26)); obtain ⟨w0', w1', w2', w3'⟩ := box2 zz2))
    all_goals
      go_wp2
      go_meet
      case rel =>
        have gs1 := G1.size
        have gs2 := G2.size
        first
          | exact ⟨_, _, _, _, _, _, _, rfl, rfl, bq_new f1.rd f2.rd, G2.alloc gs2 _⟩
          | exact ⟨_, _, _, _, _, _, _, rfl, rfl, bq_set f1 f2 (by have := j1.size; have := j2.size; simp at *; try omega) zz2, below_set2 _ _ _ _ G2 (by omega) (Nat.le_refl _)⟩
  case rest =>
    obtain ⟨gB, oB, nB', cB', pB', mB', dB', rfl, rfl, BB7, G7⟩ := hcut
    obtain ⟨W7, hW7⟩ : ∃ W, W = wc := ⟨_, rfl⟩
    subst hW7
    have BA7 := BA6.below G7
    have BY7 := BY6.below G7
    have K7 := K6.trans (G7.mono K6.size)
    clear ALLS cC cL XX BB6 BA6 BY6 LB1 LB2 K6 G7
    obtain ⟨a0, a1⟩ := BA7.c
    obtain ⟨b0, b1⟩ := BB7.c
    have tE : (E1 != E1) = false := by simp
    have cE1 := eqT W7 pA qA oB pB' nA cA mA dA nB' cB' mB' dB' _ _ BA7.s BA7.a BB7.s BB7.a
    go_upto_region 8 with fail
    go_cut [62] from 46 to 62 (fun s V => s = .bool false ∧ Below W7.heap.size W7 V)
    case first =>
      by_cases hE : E1 = 0
      · have tE2 : (E1 == 0) = true := by simpa using hE
        clear hE
        go_wp2_with (go_at_call 13; (with_reducible refine cE1.mono ?_); rintro e v1 ⟨rfl, j1⟩)
        go_meet
        case rel => exact ⟨rfl, j1⟩
      · have tE2 : (E1 == 0) = false := by simpa using hE
        clear hE
        go_wp2
        go_meet
        case rel => exact ⟨rfl, Below.refl _ _⟩
    case rest =>
      obtain ⟨rfl, G8⟩ := hcut
      obtain ⟨W8, hW8⟩ : ∃ W, W = wc := ⟨_, rfl⟩
      subst hW8
      have BY8 := BY7.below G8
      have K8 := K7.trans (G8.mono K7.size)
      clear cE1 BA7 BB7 a0 a1 b0 b1 G8 BY7 K7 tE
      obtain ⟨y0, y1⟩ := BY8.c
      by_cases my : mayA sy ay = 0
      rotate_left
      · have cM := may8_no so ao sn sc an ac sy ay W8 BY8.s BY8.a my
        clear my
        go_wp2_with (go_at_call 14; (with_reducible refine cM.mono ?_); rintro e v1 ⟨rfl, j1⟩)
        go_ret
        exact ⟨rfl, K8.trans (j1.mono K8.size)⟩
      have cM := may8_yes so ao sn sc an ac sy ay W8 BY8.s BY8.a my
      by_cases h0 : sn = 0
      · subst h0
        have BY9 := fun V (j : Below W8.heap.size W8 V) => (BY8.below j).c.1
        go_wp2_with (go_at_call 14; (with_reducible refine cM.mono ?_); rintro e v1 ⟨rfl, j1⟩; have z0 := BY9 v1 j1)
        go_ret
        exact ⟨rfl, K8.trans (j1.mono K8.size)⟩
      have t3 : ((sn : Int) == 0) = false := by simp; omega
      have t3b : (sn == 0) = false := by simp; omega
      have hsl : sy.length ≠ 0 := by rw [hs.len]; exact h0
      have fy := (mayA_0 my).1
      have tb := tal_bd fy
      obtain ⟨tl, htl⟩ : ∃ tl : Nat, tal sy = (tl : Int) := ⟨(tal sy).toNat, by omega⟩
      have tl4 : tl ≤ 4096 := by omega
      have hn0 : nth sy 0 = (tl : Int) := by rw [← htl]; unfold tal; rw [if_neg hsl]
      have HN0 : Hid (nth sy 0 = (tl : Int)) := hn0
      have r8 : sn ≤ 8 := by have := (mayF_zero fy).2.1; rw [hs.len] at this; exact this
      have mL : mayA [(n : Int)] xs = 0 := mayA_list hn HLX.out
      have cT : ∀ V p1 n1 c1 p2 n2 c2 sx ax, Bq V w.heap.size so sn sc ao an ac sy ay → Rd V p1 n1 sx → Rd V p2 n2 ax → Sl p2 n2 c2 → mayA sx ax = 0 → n1 ≤ 1 → Calls Try.prog 12 #[.int .i64 22, .agg #[.slice p1 n1 c1, .slice p2 n2 c2], .agg #[.slice so sn sc, .slice ao an ac]] V fun e w' => AnsQ V (fun S A => S = cpS sx ax sy ∧ A = cpA sx ax sy ay) (cpE sx ax sy) e w' := fun V p1 n1 c1 p2 n2 c2 sx ax B h1 h2 h3 m r =>
        dyadZ_22 p1 p2 so ao n1 c1 n2 c2 sn sc an ac sx ax sy ay _ _ V h1 h2 B.s B.a m my r r8 (fun U k => copies_any p1 p2 so ao n1 c1 n2 c2 sn sc an ac sx ax sy ay U (h1.below k (Nat.le_refl _)) (h2.below k (Nat.le_refl _)) h3 (B.s.below k (Nat.le_refl _)) ls (B.a.below k (Nat.le_refl _)) la m my)
      have cT1 : ∀ V p2 c2, Bq V w.heap.size so sn sc ao an ac sy ay → Rd V p2 1 [1] → Sl p2 1 c2 → Calls Try.prog 12 #[.int .i64 22, .agg #[.slice none 0 0, .slice p2 1 c2], .agg #[.slice so sn sc, .slice ao an ac]] V fun e w' => AnsQ V (fun S A => S = sy ∧ A = ay) 0 e w' := fun V p2 c2 B h2 h3 => by
        have := cT V none 0 0 p2 1 c2 [] [1] B (Rd.nil V) h2 h3 (mayA_sc 1) (by omega)
        obtain ⟨e1, e2, e3⟩ := cp_one my hsl
        rw [e1, e2, e3] at this
        exact this
      have cT2 : ∀ V o1 c1 p2 c2, Bq V w.heap.size so sn sc ao an ac sy ay → Rd V (some o1) 1 [(tl : Int)] → Rd V p2 tl (List.replicate tl 1) → Sl p2 tl c2 → Calls Try.prog 12 #[.int .i64 22, .agg #[.slice (some o1) 1 c1, .slice p2 tl c2], .agg #[.slice so sn sc, .slice ao an ac]] V fun e w' => AnsQ V (fun S A => S = sy ∧ A = ay) 0 e w' := fun V o1 c1 p2 c2 B h1 h2 h3 => by
        have := cT V (some o1) 1 c1 p2 tl c2 [(tl : Int)] (List.replicate tl 1) B h1 h2 h3 (mayA_list tl4 (by simp)) (by omega)
        obtain ⟨e1, e2, e3⟩ := cp_ones (ns := List.replicate tl 1) my hsl htl (by simp) (fun k hk => by unfold nth; simp [hk])
        rw [e1, e2, e3] at this
        exact this
      have cT3 : ∀ V o1 c1 p2 c2, Bq V w.heap.size so sn sc ao an ac sy ay → Rd V (some o1) 1 [(n : Int)] → Rd V p2 n xs → Sl p2 n c2 → Calls Try.prog 12 #[.int .i64 22, .agg #[.slice (some o1) 1 c1, .slice p2 n c2], .agg #[.slice so sn sc, .slice ao an ac]] V fun e w' => AnsQ V (fun S A => S = cpS [(n : Int)] xs sy ∧ A = cpA [(n : Int)] xs sy ay) (cpE [(n : Int)] xs sy) e w' := fun V o1 c1 p2 c2 B h1 h2 h3 => cT V (some o1) 1 c1 p2 n c2 [(n : Int)] xs B h1 h2 h3 mL (by omega)
      have HCP : Hid (cpE [(n : Int)] xs sy = 0 → (n : Int) = nth sy 0 ∧ (∀ k, k < n → 0 ≤ nth xs k ∧ nth xs k ≤ 4096) ∧ sm xs ≤ 4096 ∧ cpS [(n : Int)] xs sy = sm xs :: sy.drop 1) := fun e => cp_list HLX.out hsl e
      have HCN : Hid (cpE [(n : Int)] xs sy ≠ 0 → cpS [(n : Int)] xs sy = [] ∧ cpA [(n : Int)] xs sy ay = []) := fun e => ⟨cpS_no e, cpA_no e⟩
      generalize cpS [(n : Int)] xs sy = S3 at *
      generalize cpA [(n : Int)] xs sy ay = A3 at *
      generalize cpE [(n : Int)] xs sy = E3 at *
      clear my fy tb htl hn0 mL cT
      go_upto_region 14 with (go_at_call 14; (with_reducible refine cM.mono ?_); rintro e v1 ⟨rfl, j1⟩; obtain ⟨z0, z1⟩ := (BY8.below j1).c)
      have BY9 := BY8.below j1
      have K9 := K8.trans (j1.mono K8.size)
      clear cM BY8 K8 j1 y0 y1
      obtain ⟨bS, offS, hso, hbS, hcS⟩ := BY9.s.cells (by omega)
      have cS0 := hcS 0 (by omega)
      rw [HN0.out, Nat.add_zero] at cS0
      clear hcS
      subst hso
      have SS : ∀ V, Below v1.heap.size v1 V → V.cell? ⟨w.heap.size, 0, none⟩ = some (.slice (some ⟨bS, offS, none⟩) sn sc) ∧ V.cell? ⟨bS, offS, none⟩ = some (.int .i64 (tl : Nat)) := fun V j => ⟨(BY9.below j).c.1, (j.cell (p := ⟨bS, offS, none⟩) hbS).trans cS0⟩
      have bsn : (0 : Int) < (sn : Int) := by omega
      go_loopw [11, 12] (fun s i V => ∃ (k : Nat) (oo : Option Addr) (oc : Nat), k ≤ tl ∧ i = .int .i64 (k : Nat) ∧ s = .slice oo k oc ∧ Ft 2 V v1.heap.size oo k oc (List.replicate k 1) ∧ Below v1.heap.size v1 V) (fun _ i _ => tl - (intOf i).toNat)
      case atStart => exact ⟨0, none, 0, Nat.zero_le _, rfl, rfl, Ft.nil _ _ _, Below.refl _ _⟩
      case round =>
        obtain ⟨k, oo, oc, hk, rfl, rfl, F, B⟩ := hrel
        obtain ⟨u0, u1⟩ := SS wr B
        have sB := B.size
        by_cases hlt : k < tl
        · have t5 : decide ((k : Int) < (tl : Int)) = true := by simp; omega
          go_wp2_with (at_builtin; refine wpList_joinT tyL rfl _ _ rfl v1.heap.size oo (some ⟨wr.heap.size, 0, none⟩) k oc 1 1 _ [1] rfl rfl (F.below (box_below wr _) (Nat.le_refl _)) (ft_new 2 wr [1] (by simp) (by decide)).rd (ft_new 2 wr [1] (by simp) (by decide)).sl (by omega) (by simp; omega) ?_; intro co3 c3 w3 f3 b3)
          go_roundw
          case rel => exact ⟨k + 1, co3, c3, by omega, by go_num, rfl, by rw [List.replicate_succ']; exact f3, B.trans (((box_below wr _).mono sB).trans b3)⟩
          case measure => simp [intOf]; omega
        · obtain rfl : k = tl := by omega
          have t5 : decide ((k : Int) < (k : Int)) = false := by simp
          go_wp2
          obtain ⟨WA, hWA⟩ : ∃ W, W = wr := ⟨_, rfl⟩
          subst hWA
          have BYA := BY9.below B
          have KA := K9.trans (B.mono K9.size)
          have ALLS : ∀ V, Below WA.heap.size WA V → V.cell? ⟨w.heap.size, 0, none⟩ = some (.slice (some ⟨bS, offS, none⟩) sn sc) ∧ V.cell? ⟨w.heap.size, 1, none⟩ = some (.slice ao an ac) ∧ Below WA.heap.size WA V := fun V j => ⟨(BYA.below j).c.1, (BYA.below j).c.2, j⟩
          have cS1 := fun V => scalar8_any 1 V (by omega) (by omega)
          go_cut [13, 14] from 83 to 88 (fun s1 s2 V => ∃ gA oA nA cA pA mA dA, s1 = .pointer (some ⟨gA, 0, none⟩) ∧ s2 = .int .i64 0 ∧ Bq V gA oA nA cA pA mA dA sy ay ∧ Below WA.heap.size WA V)
          case first =>
            go_region_held3 (fun V => V.cell? ⟨w.heap.size, 0, none⟩ = some (.slice (some ⟨bS, offS, none⟩) sn sc) ∧ V.cell? ⟨w.heap.size, 1, none⟩ = some (.slice ao an ac) ∧ Below WA.heap.size WA V) (first | exact ALLS _ (by assumption) | exact ALLS _ (Below.refl _ _).drew | exact ALLS _ (box_below WA _).drew | exact ALLS _ (G1.alloc G1.size _) | exact ALLS _ (G2.alloc G2.size _) | exact ALLS _ (below_set2 _ _ _ _ G2 (by first | exact Nat.le_refl _ | exact G1.size | exact G2.size) (Nat.le_refl _)))
              (first
                | (go_at_call 11; (with_reducible refine (cS1 (WA.alloc (.cells #[.slice none 0 0, .slice none 0 0] 26)).drew).mono ?_); rintro e v1 ⟨y3, y4, rfl, fa, j1⟩; have G1 : Below WA.heap.size WA v1 := (box_below WA _).drew.trans (j1.mono (by simp)); have zz1 := (j1.block WA.heap.size (by simp)).trans (allocNew WA (.cells #[.slice none 0 0, .slice none 0 0] 26)))
                | (go_at_call 11; (with_reducible refine (cS1 WA.drew).mono ?_); rintro e v1 ⟨y3, y4, rfl, fa, j1⟩; have G1 : Below WA.heap.size WA v1 := (Below.refl _ WA).drew.trans j1)
                | (go_at_call 12; (with_reducible refine (cT1 v1 _ _ (BYA.below G1) fa.rd fa.sl).mono ?_); rintro e v2 ⟨oA, nA, cA, pA, mA, dA, S9, A9, rfl, f1, f2, ⟨rfl, rfl⟩, j2⟩; have G2 := G1.trans (j2.mono G1.size); (try (have zz2 := (j2.block _ (Array.getElem?_eq_some_iff.1 zz1).1).trans zz1; obtain ⟨w0', w1', w2', w3'⟩ := box2 zz2)))
                | (go_at_call 12; (with_reducible refine (cT1 (v1.alloc (.cells #[.slice none 0 0, .slice none 0 0] 26)) _ _ (BYA.below (G1.alloc G1.size _)) (fa.rd.below (box_below v1 _) (Nat.le_refl _)) fa.sl).mono ?_); rintro e v2 ⟨oA, nA, cA, pA, mA, dA, S9, A9, rfl, f1, f2, ⟨rfl, rfl⟩, j2⟩; have G2 := (G1.alloc G1.size (.cells #[.slice none 0 0, .slice none 0 0] 26)).trans (j2.mono (G1.alloc G1.size (.cells #[.slice none 0 0, .slice none 0 0] 26)).size); have zz2 := (j2.block v1.heap.size (by simp)).trans (allocNew v1 (.cells #[.slice none 0 0, .slice none 0 0] 26)); obtain ⟨w0', w1', w2', w3'⟩ := box2 zz2))
            all_goals
              go_wp2
              go_meet
              case rel =>
                have gs1 := G1.size
                have gs2 := G2.size
                first
                  | exact ⟨_, _, _, _, _, _, _, rfl, rfl, bq_new f1.rd f2.rd, G2.alloc gs2 _⟩
                  | exact ⟨_, _, _, _, _, _, _, rfl, rfl, bq_set f1 f2 (by have := j1.size; have := j2.size; simp at *; try omega) zz2, below_set2 _ _ _ _ G2 (by omega) (Nat.le_refl _)⟩
          case rest =>
            obtain ⟨gC, oC, nC, cC, pC, mC, dC, rfl, rfl, BC, GC⟩ := hcut
            obtain ⟨WB, hWB⟩ : ∃ W, W = wc := ⟨_, rfl⟩
            subst hWB
            have BYB := BYA.below GC
            have KB := KA.trans (GC.mono KA.size)
            have FB := F.rd.below GC (Nat.le_refl _)
            have FL := F.sl
            clear ALLS cT1 cS1 BYA KA GC
            have ALLS : ∀ V, Below WB.heap.size WB V → V.cell? ⟨w.heap.size, 0, none⟩ = some (.slice (some ⟨bS, offS, none⟩) sn sc) ∧ V.cell? ⟨w.heap.size, 1, none⟩ = some (.slice ao an ac) ∧ Below WB.heap.size WB V := fun V j => ⟨(BYB.below j).c.1, (BYB.below j).c.2, j⟩
            go_upto_region 18 with fail
            have cL := fun V (j : Below WB.heap.size WB V) => list8_any oo k oc (List.replicate k 1) V (FB.below j (Nat.le_refl _)) FL (by omega)
            go_cut [15, 16] from 89 to 95 (fun s1 s2 V => ∃ gA oA nA cA pA mA dA, s1 = .pointer (some ⟨gA, 0, none⟩) ∧ s2 = .int .i64 0 ∧ Bq V gA oA nA cA pA mA dA sy ay ∧ Below WB.heap.size WB V)
            case first =>
              go_region_held3 (fun V => V.cell? ⟨w.heap.size, 0, none⟩ = some (.slice (some ⟨bS, offS, none⟩) sn sc) ∧ V.cell? ⟨w.heap.size, 1, none⟩ = some (.slice ao an ac) ∧ Below WB.heap.size WB V) (first | exact ALLS _ (by assumption) | exact ALLS _ (Below.refl _ _).drew | exact ALLS _ (box_below WB _).drew | exact ALLS _ (G1.alloc G1.size _) | exact ALLS _ (G2.alloc G2.size _) | exact ALLS _ (below_set2 _ _ _ _ G2 (by first | exact Nat.le_refl _ | exact G1.size | exact G2.size) (Nat.le_refl _)))
                (first
                  | (go_at_call 9; (with_reducible refine (cL (WB.alloc (.cells #[.slice none 0 0, .slice none 0 0] 26)).drew (box_below WB _).drew).mono ?_); rintro e v1 ⟨y1, y2, y3, y4, rfl, fs, fa, j1⟩; have G1 : Below WB.heap.size WB v1 := (box_below WB _).drew.trans (j1.mono (by simp)); have zz1 := (j1.block WB.heap.size (by simp)).trans (allocNew WB (.cells #[.slice none 0 0, .slice none 0 0] 26)))
                  | (go_at_call 9; (with_reducible refine (cL WB.drew (Below.refl _ _).drew).mono ?_); rintro e v1 ⟨y1, y2, y3, y4, rfl, fs, fa, j1⟩; have G1 : Below WB.heap.size WB v1 := (Below.refl _ WB).drew.trans j1)
                  | (go_at_call 12; (with_reducible refine (cT2 v1 _ _ _ _ (BYB.below G1) fs.rd fa.rd fa.sl).mono ?_); rintro e v2 ⟨oA, nA, cA, pA, mA, dA, S9, A9, rfl, f1, f2, ⟨rfl, rfl⟩, j2⟩; have G2 := G1.trans (j2.mono G1.size); (try (have zz2 := (j2.block _ (Array.getElem?_eq_some_iff.1 zz1).1).trans zz1; obtain ⟨w0', w1', w2', w3'⟩ := box2 zz2)))
                  | (go_at_call 12; (with_reducible refine (cT2 (v1.alloc (.cells #[.slice none 0 0, .slice none 0 0] 26)) _ _ _ _ (BYB.below (G1.alloc G1.size _)) (fs.rd.below (box_below v1 _) (Nat.le_refl _)) (fa.rd.below (box_below v1 _) (Nat.le_refl _)) fa.sl).mono ?_); rintro e v2 ⟨oA, nA, cA, pA, mA, dA, S9, A9, rfl, f1, f2, ⟨rfl, rfl⟩, j2⟩; have G2 := (G1.alloc G1.size (.cells #[.slice none 0 0, .slice none 0 0] 26)).trans (j2.mono (G1.alloc G1.size (.cells #[.slice none 0 0, .slice none 0 0] 26)).size); have zz2 := (j2.block v1.heap.size (by simp)).trans (allocNew v1 (.cells #[.slice none 0 0, .slice none 0 0] 26)); obtain ⟨w0', w1', w2', w3'⟩ := box2 zz2))
              all_goals
                go_wp2
                go_meet
                case rel =>
                  have gs1 := G1.size
                  have gs2 := G2.size
                  first
                    | exact ⟨_, _, _, _, _, _, _, rfl, rfl, bq_new f1.rd f2.rd, G2.alloc gs2 _⟩
                    | exact ⟨_, _, _, _, _, _, _, rfl, rfl, bq_set f1 f2 (by have := j1.size; have := j2.size; simp at *; try omega) zz2, below_set2 _ _ _ _ G2 (by omega) (Nat.le_refl _)⟩
            case rest =>
              obtain ⟨gD, oD, nD, cD, pD, mD, dD, rfl, rfl, BD, GD⟩ := hcut
              obtain ⟨WC, hWC⟩ : ∃ W, W = wc := ⟨_, rfl⟩
              subst hWC
              have BYC := BYB.below GD
              have BCC := BC.below GD
              have KC := KB.trans (GD.mono KB.size)
              clear ALLS cT2 cL BYB KB GD FB BC
              obtain ⟨y0, y1⟩ := BYC.c
              obtain ⟨a0, a1⟩ := BCC.c
              have cE1 := eqT WC oC pC (some ⟨bS, offS, none⟩) ao nC cC mC dC sn sc an ac _ _ BCC.s BCC.a BYC.s BYC.a
              have cE2 := fun V (j : Below WC.heap.size WC V) => eqT V oD pD (some ⟨bS, offS, none⟩) ao nD cD mD dD sn sc an ac _ _ (BD.below j).s (BD.below j).a (BYC.below j).s (BYC.below j).a
              go_upto_region 21 with (first
                | (go_at_call 13; (with_reducible refine cE1.mono ?_); rintro e v2 ⟨rfl, j2⟩; obtain ⟨d0, d1⟩ := (BD.below j2).c; obtain ⟨e0, e1⟩ := (BYC.below j2).c)
                | (go_at_call 13; (with_reducible refine (cE2 v2 j2).mono ?_); rintro e v3 ⟨rfl, j3⟩))
              have j23 := j2.trans (j3.mono j2.size)
              have BYD := BYC.below j23
              have KD := KC.trans (j23.mono KC.size)
              clear cE1 cE2 BYC KC BCC BD y0 y1 a0 a1 d0 d1 e0 e1 j23 j2 j3
              have ALLS : ∀ V, Below v3.heap.size v3 V → V.cell? ⟨w.heap.size, 0, none⟩ = some (.slice (some ⟨bS, offS, none⟩) sn sc) ∧ V.cell? ⟨w.heap.size, 1, none⟩ = some (.slice ao an ac) ∧ Below v3.heap.size v3 V := fun V j => ⟨(BYD.below j).c.1, (BYD.below j).c.2, j⟩
              have cL := fun V (j : Below v3.heap.size v3 V) => list8_any xo n xc xs V (hx.below (KD.trans (j.mono KD.size)) (Nat.le_refl _)) lx (by omega)
              go_cut [17, 18] from 114 to 122 (fun s1 s2 V => ∃ gA oA nA cA pA mA dA, s1 = .pointer (some ⟨gA, 0, none⟩) ∧ s2 = .int .i64 E3 ∧ Bq V gA oA nA cA pA mA dA S3 A3 ∧ Below v3.heap.size v3 V)
              case first =>
                go_region_held3 (fun V => V.cell? ⟨w.heap.size, 0, none⟩ = some (.slice (some ⟨bS, offS, none⟩) sn sc) ∧ V.cell? ⟨w.heap.size, 1, none⟩ = some (.slice ao an ac) ∧ Below v3.heap.size v3 V) (first | exact ALLS _ (by assumption) | exact ALLS _ (Below.refl _ _).drew | exact ALLS _ (box_below v3 _).drew | exact ALLS _ (G1.alloc G1.size _) | exact ALLS _ (G2.alloc G2.size _) | exact ALLS _ (below_set2 _ _ _ _ G2 (by first | exact Nat.le_refl _ | exact G1.size | exact G2.size) (Nat.le_refl _)))
                  (first
                    | (go_at_call 9; (with_reducible refine (cL (v3.alloc (.cells #[.slice none 0 0, .slice none 0 0] 26)).drew (box_below v3 _).drew).mono ?_); rintro e v1 ⟨y1, y2, y3, y4, rfl, fs, fa, j1⟩; have G1 : Below v3.heap.size v3 v1 := (box_below v3 _).drew.trans (j1.mono (by simp)); have zz1 := (j1.block v3.heap.size (by simp)).trans (allocNew v3 (.cells #[.slice none 0 0, .slice none 0 0] 26)))
                    | (go_at_call 9; (with_reducible refine (cL v3.drew (Below.refl _ _).drew).mono ?_); rintro e v1 ⟨y1, y2, y3, y4, rfl, fs, fa, j1⟩; have G1 : Below v3.heap.size v3 v1 := (Below.refl _ v3).drew.trans j1)
                    | (go_at_call 12; (with_reducible refine (cT3 v1 _ _ _ _ (BYD.below G1) fs.rd fa.rd fa.sl).mono ?_); rintro e v2 ⟨oA, nA, cA, pA, mA, dA, S9, A9, rfl, f1, f2, ⟨rfl, rfl⟩, j2⟩; have G2 := G1.trans (j2.mono G1.size); (try (have zz2 := (j2.block _ (Array.getElem?_eq_some_iff.1 zz1).1).trans zz1; obtain ⟨w0', w1', w2', w3'⟩ := box2 zz2)))
                    | (go_at_call 12; (with_reducible refine (cT3 (v1.alloc (.cells #[.slice none 0 0, .slice none 0 0] 26)) _ _ _ _ (BYD.below (G1.alloc G1.size _)) (fs.rd.below (box_below v1 _) (Nat.le_refl _)) (fa.rd.below (box_below v1 _) (Nat.le_refl _)) fa.sl).mono ?_); rintro e v2 ⟨oA, nA, cA, pA, mA, dA, S9, A9, rfl, f1, f2, ⟨rfl, rfl⟩, j2⟩; have G2 := (G1.alloc G1.size (.cells #[.slice none 0 0, .slice none 0 0] 26)).trans (j2.mono (G1.alloc G1.size (.cells #[.slice none 0 0, .slice none 0 0] 26)).size); have zz2 := (j2.block v1.heap.size (by simp)).trans (allocNew v1 (.cells #[.slice none 0 0, .slice none 0 0] 26)); obtain ⟨w0', w1', w2', w3'⟩ := box2 zz2))
                all_goals
                  go_wp2
                  go_meet
                  case rel =>
                    have gs1 := G1.size
                    have gs2 := G2.size
                    first
                      | exact ⟨_, _, _, _, _, _, _, rfl, rfl, bq_new f1.rd f2.rd, G2.alloc gs2 _⟩
                      | exact ⟨_, _, _, _, _, _, _, rfl, rfl, bq_set f1 f2 (by have := j1.size; have := j2.size; simp at *; try omega) zz2, below_set2 _ _ _ _ G2 (by omega) (Nat.le_refl _)⟩
              case rest =>
                obtain ⟨gE, oE, nE, cE, pE, mE, dE, rfl, rfl, BE, GE⟩ := hcut
                obtain ⟨WE, hWE⟩ : ∃ W, W = wc := ⟨_, rfl⟩
                subst hWE
                have BYE := BYD.below GE
                have KE := KD.trans (GE.mono KD.size)
                clear ALLS cL cT3 BYD KD GE
                obtain ⟨e0, e1⟩ := BE.c
                by_cases hE : E3 = 0
                rotate_left
                · obtain ⟨s1, s2⟩ := HCN.out hE
                  have tE : (E3 != 0) = true := by simpa using hE
                  obtain rfl : nE = 0 := by rw [← BE.s.len, s1]; rfl
                  obtain rfl : mE = 0 := by rw [← BE.a.len, s2]; rfl
                  clear hE
                  go_wp2
                  go_ret
                  exact ⟨rfl, KE⟩
                obtain ⟨hk0, hkb, hs4, hS3⟩ := HCP.out hE
                have tE : (E3 != 0) = false := by simpa using hE
                have HKB : Hid (∀ k, k < n → 0 ≤ nth xs k ∧ nth xs k ≤ 4096) := hkb
                have hup : Hid (∀ j, j ≤ n → 0 ≤ sm (xs.take j) ∧ sm (xs.take j) ≤ 4096) := fun j hj => by
                  have := sm_up (zs := xs) (fun i hi => (hkb i (by rw [← HLX.out]; exact hi)).1) n (by rw [HLX.out]; exact Nat.le_refl _) j hj
                  rw [List.take_of_length_le (l := xs) (i := n) (by rw [HLX.out]; exact Nat.le_refl _)] at this
                  omega
                have HSU : Hid (∀ j, j < n → sm (xs.take (j + 1)) = sm (xs.take j) + nth xs j) := fun j hj => by rw [take_nth (by rw [HLX.out]; exact hj), sm_snoc]
                have HTE : Hid (sm (xs.take n) = sm xs) := by show _ = _; rw [List.take_of_length_le (by rw [HLX.out]; exact Nat.le_refl _)]
                have nE1 : nE = sn := by rw [← BE.s.len, hS3, ← BYE.s.len, List.length_cons, List.length_drop]; have := BYE.s.len; omega
                subst nE1
                rw [HN0.out] at hk0
                obtain rfl : n = k := by omega
                have hE0 : nth S3 0 = sm xs := by rw [hS3]; rfl
                obtain ⟨bE, offE, hoe, hbE, hcE⟩ := BE.s.cells (by omega)
                have cE0 := hcE 0 (by omega)
                rw [hE0, Nat.add_zero] at cE0
                subst hoe
                clear hcE hE0 hS3 hkb hs4 hk0 hE
                have XE := hx.below KE (Nat.le_refl _)
                obtain ⟨y0, y1⟩ := BYE.c
                obtain ⟨b', off', hso', hbS', hcS'⟩ := BYE.s.cells (by omega)
                have cS1 := hcS' 0 (by omega)
                rw [HN0.out, Nat.add_zero] at cS1
                cases hso'
                clear hcS'
                generalize hSM : (fun j => sm (xs.take j)) = fsm at *
                have hup' : Hid (∀ j, j ≤ n → 0 ≤ fsm j ∧ fsm j ≤ 4096) := by rw [← hSM]; exact hup
                have HSU' : Hid (∀ j, j < n → fsm (j + 1) = fsm j + nth xs j) := by rw [← hSM]; exact HSU
                have HTE' : Hid (fsm n = sm xs) := by rw [← hSM]; exact HTE
                have HZ0 : Hid (fsm 0 = 0) := by rw [← hSM]; rfl
                clear hSM hup HSU HTE
                generalize sm xs = SMX at *
                go_wp2
                go_loopw [19, 20] (fun s i V => ∃ j : Nat, j ≤ n ∧ i = .int .i64 (j : Nat) ∧ s = .int .i64 (fsm j) ∧ V = WE) (fun _ i _ => n - (intOf i).toNat)
                case atStart => exact ⟨0, Nat.zero_le _, rfl, by rw [HZ0.out], rfl⟩
                case round =>
                  obtain ⟨j, hj, rfl, rfl, rfl⟩ := hrel
                  by_cases hlt2 : j < n
                  · have t6 : decide ((j : Int) < (n : Int)) = true := by simp; omega
                    have bj : (j : Int) < (n : Int) := by omega
                    obtain ⟨b, off, rfl, hb, hc⟩ := XE.cells (by omega)
                    have c1 := hc j hlt2
                    obtain ⟨p1, p2⟩ := HKB.out j hlt2
                    obtain ⟨p3, p4⟩ := hup'.out j hj
                    obtain ⟨p5, p6⟩ := hup'.out (j + 1) (by omega)
                    have HS : Hid (_) := HSU'.out j hlt2
                    rw [HS.out] at p5 p6
                    generalize nth xs j = x at *
                    generalize hfj : fsm j = fj at *
                    have HFJ : Hid (fsm j = fj) := hfj
                    have wj : IntKind.i64.wrap (fj + x) = fj + x := wrZ (by omega) (by omega)
                    have t7 : decide (x < 0) = false := by simp; omega
                    have t8 : decide (4096 < x) = false := by simp; omega
                    clear hc p1 p2 p3 p4 p5 p6 hfj
                    go_wp2
                    go_roundw
                    case rel => exact ⟨j + 1, by omega, by go_num, by rw [HS.out], (by first | trivial | rfl)⟩
                    case measure => simp [intOf]; omega
                  · obtain rfl : j = n := by omega
                    have t6 : decide ((j : Int) < (j : Int)) = false := by simp
                    rw [HTE'.out]
                    go_wp2
                    go_ret
                    exact ⟨by simp, KE⟩
theorem copiesL_all (xo : Option Addr) (n xc : Nat) (xs : List Int) (so ao : Option Addr) (sn sc an ac : Nat) (sy ay : List Int) (w : World) (hx : Rd w xo n xs) (lx : Sl xo n xc) (hs : Rd w so sn sy) (ls : Sl so sn sc) (ha : Rd w ao an ay) (la : Sl ao an ac) :
    Calls Try.prog 4 #[.slice xo n xc, .agg #[.slice so sn sc, .slice ao an ac]] w fun e w' => e = .returned (.bool true) ∧ Below w.heap.size w w' := by
  by_cases hn : 4096 < n
  · exact copiesL_long xo n xc xs so ao sn sc an ac sy ay w hx lx hs ls ha la hn
  · exact copiesL_any xo n xc xs so ao sn sc an ac sy ay w hx lx hs ls ha la (by omega)
end Go.Proofs.Ytjnlkdeiccllgaa
