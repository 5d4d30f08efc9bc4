
/- The statement CellPairs, walked. -/

import Derived.Test.YtjllmfahmlfljaaPrB

namespace Go.Proofs.Ytjllmfahmlfljaa

open Go.RowKit Go.Deep

set_option linter.unusedVariables false

/-- The pairs, both arrays' cells, each in a box; the frame. -/
structure Pw (w V : World) (o5 u1 u2 u3 u4 fo e1 e2 ho e3 e4 co : Option Addr) (gp ga gb n5 c5 gg gg2 N1 N2 n1 c1 n2 c2 n3 c3 n4 c4 fn fc ag k1 d1 k2 d2 hn hc bg k3 d3 k4 d4 cn cc : Nat) (L F1 F2 Is Zs It Zt : List Int) (xs ys : Nat → List Int × List Int) : Prop where
  x0 : V.cell? ⟨gp, 0, none⟩ = some (.slice o5 n5 c5)
  x1 : V.cell? ⟨gp, 1, none⟩ = some (.slice (some ⟨gg, 0, none⟩) N1 N1)
  x2 : V.cell? ⟨gp, 2, none⟩ = some (.slice (some ⟨gg2, 0, none⟩) N2 N2)
  x3 : V.cell? ⟨gp, 3, none⟩ = some (.slice u1 n1 c1)
  x4 : V.cell? ⟨gp, 4, none⟩ = some (.slice u2 n2 c2)
  x5 : V.cell? ⟨gp, 5, none⟩ = some (.slice u3 n3 c3)
  x6 : V.cell? ⟨gp, 6, none⟩ = some (.slice u4 n4 c4)
  x7 : V.cell? ⟨ga, 0, none⟩ = some (.slice fo fn fc)
  x8 : V.cell? ⟨ga, 1, none⟩ = some (.slice (some ⟨ag, 0, none⟩) N1 N1)
  x9 : V.cell? ⟨ga, 2, none⟩ = some (.slice e1 k1 d1)
  x10 : V.cell? ⟨ga, 3, none⟩ = some (.slice e2 k2 d2)
  x11 : V.cell? ⟨gb, 0, none⟩ = some (.slice ho hn hc)
  x12 : V.cell? ⟨gb, 1, none⟩ = some (.slice (some ⟨bg, 0, none⟩) N2 N2)
  x13 : V.cell? ⟨gb, 2, none⟩ = some (.slice e3 k3 d3)
  x14 : V.cell? ⟨gb, 3, none⟩ = some (.slice e4 k4 d4)
  pf : Rd V o5 n5 L
  q1 : Rd V u1 n1 Is
  q2 : Rd V u2 n2 Zs
  q3 : Rd V u3 n3 It
  q4 : Rd V u4 n4 Zt
  af : Rd V fo fn F1
  a1 : Rd V e1 k1 Is
  a2 : Rd V e2 k2 Zs
  bf : Rd V ho hn F2
  b1 : Rd V e3 k3 It
  b2 : Rd V e4 k4 Zt
  cf : Rd V co cn L
  pl : As V (some ⟨gg, 0, none⟩) N1 xs
  pq : As V (some ⟨gg2, 0, none⟩) N2 ys
  al : As V (some ⟨ag, 0, none⟩) N1 xs
  bl : As V (some ⟨bg, 0, none⟩) N2 ys
  bel : Below w.heap.size w V
theorem Pw.below {w V : World} {o5 u1 u2 u3 u4 fo e1 e2 ho e3 e4 co : Option Addr} {gp ga gb n5 c5 gg gg2 N1 N2 n1 c1 n2 c2 n3 c3 n4 c4 fn fc ag k1 d1 k2 d2 hn hc bg k3 d3 k4 d4 cn cc : Nat} {L F1 F2 Is Zs It Zt : List Int} {xs ys : Nat → List Int × List Int} {V' : World} (h : Pw w V o5 u1 u2 u3 u4 fo e1 e2 ho e3 e4 co gp ga gb n5 c5 gg gg2 N1 N2 n1 c1 n2 c2 n3 c3 n4 c4 fn fc ag k1 d1 k2 d2 hn hc bg k3 d3 k4 d4 cn cc L F1 F2 Is Zs It Zt xs ys) (k : Below V.heap.size V V') : Pw w V' o5 u1 u2 u3 u4 fo e1 e2 ho e3 e4 co gp ga gb n5 c5 gg gg2 N1 N2 n1 c1 n2 c2 n3 c3 n4 c4 fn fc ag k1 d1 k2 d2 hn hc bg k3 d3 k4 d4 cn cc L F1 F2 Is Zs It Zt xs ys :=
  ⟨cellB k h.x0 (Nat.le_refl _), cellB k h.x1 (Nat.le_refl _), cellB k h.x2 (Nat.le_refl _), cellB k h.x3 (Nat.le_refl _), cellB k h.x4 (Nat.le_refl _), cellB k h.x5 (Nat.le_refl _), cellB k h.x6 (Nat.le_refl _), cellB k h.x7 (Nat.le_refl _), cellB k h.x8 (Nat.le_refl _), cellB k h.x9 (Nat.le_refl _), cellB k h.x10 (Nat.le_refl _), cellB k h.x11 (Nat.le_refl _), cellB k h.x12 (Nat.le_refl _), cellB k h.x13 (Nat.le_refl _), cellB k h.x14 (Nat.le_refl _), h.pf.below k (Nat.le_refl _), h.q1.below k (Nat.le_refl _), h.q2.below k (Nat.le_refl _), h.q3.below k (Nat.le_refl _), h.q4.below k (Nat.le_refl _), h.af.below k (Nat.le_refl _), h.a1.below k (Nat.le_refl _), h.a2.below k (Nat.le_refl _), h.bf.below k (Nat.le_refl _), h.b1.below k (Nat.le_refl _), h.b2.below k (Nat.le_refl _), h.cf.below k (Nat.le_refl _), h.pl.below k (Nat.le_refl _), h.pq.below k (Nat.le_refl _), h.al.below k (Nat.le_refl _), h.bl.below k (Nat.le_refl _), btw h.bel k h.bel.size⟩
theorem pair_place {L F : List Int} {n N k : Nat} (pre : L.take F.length = F) (mf : mayF F = 0) (ml : mayF L = 0) (hn : (n : Int) = pr L) (hN : (N : Int) = pr F) (hk : k < n) (V : World) (fo co : Option Addr) (fn fc m cc : Nat) (hf : Rd V fo fn F) (hd : Rd V co m (digs L k)) :
    Calls Try.prog 20 #[.slice fo fn fc, .slice co fn cc] V fun e w' => e = .returned (.tuple #[.int .i64 ((k / (n / N) : Nat) : Int), .int .i64 0]) ∧ w' = V := by
  obtain ⟨_, _, x1, x2⟩ := pp_place pre mf ml hn hN hk
  have le : F.length ≤ L.length := by
    have := congrArg List.length pre
    rw [List.length_take] at this
    omega
  have hl := hf.len
  have hm := hd.len
  rw [digs_len] at hm
  have h := place_any fo co fn fn fc cc F ((digs L k).take fn) V hf (hd.take fn (by omega))
  rw [← hl] at h
  rwa [x1, x2, hl] at h
theorem pair_at {L : List Int} {n k : Nat} (ml : mayF L = 0) (hn : (n : Int) = pr L) (hk : k < n) (V : World) (co : Option Addr) (cn cc : Nat) (h : Rd V co cn L) :
    Calls Try.prog 19 #[.slice co cn cc, .int .i64 (k : Nat)] V fun e w' => ∃ do' dc, e = .returned (.tuple #[.slice do' cn dc, .int .i64 0]) ∧ Rd w' do' cn (digs L k) ∧ Sl do' cn dc ∧ Below V.heap.size V w' := by
  obtain ⟨x1, x2⟩ := at_good ml hn hk
  have b := (prF_bd ml).2
  refine (at_any co cn cc L k V h (by omega) (by omega)).mono fun e w' ⟨o, m, c, y1, y2, y3⟩ => ?_
  rw [x1] at y1
  rw [x2] at y2
  have e1 := y2.rd.len
  have e2 := h.len
  rw [digs_len] at e1
  obtain rfl : m = cn := by omega
  exact ⟨o, c, y1, y2.rd, y2.ft.sl, y3⟩

set_option maxHeartbeats 8000000 in
set_option maxRecDepth 20000 in
theorem pairs_no3 (so ao tp bo : Option Addr) (sn sc an ac tn tc bn bc : Nat) (s a t b : List Int) (l r : Int) (w : World) (hs : Rd w so sn s) (ss : Sl so sn sc) (ha : Rd w ao an a) (sa : Sl ao an ac) (ht : Rd w tp tn t) (st : Sl tp tn tc) (hb : Rd w bo bn b) (sb : Sl bo bn bc) (l1 : -9223372036854775808 ≤ l) (l2 : l ≤ 9223372036854775807) (r1 : -9223372036854775808 ≤ r) (r2 : r ≤ 9223372036854775807) (h0 : mayA s a = 0) (h1 : mayA t b = 0) (h2 : agrE (frm s l) (frm t r) ≠ 0) :
    Calls Try.prog 4 #[.agg #[.slice so sn sc, .slice ao an ac], .agg #[.slice tp tn tc, .slice bo bn bc], .int .i64 l, .int .i64 r] w fun e w' => e = .returned (.bool true) ∧ Below w.heap.size w w' := by
  obtain ⟨N1, hN1⟩ : ∃ N, npl s l = N := ⟨_, rfl⟩
  obtain ⟨N2, hN2⟩ : ∃ N, npl t r = N := ⟨_, rfl⟩
  have I0 := xy_start w so sn sc ao an ac tp tn tc bo bn bc s a t b hs ha ht hb
  have htw := fun V (x : Rd V so sn s) (y : Rd V ao an a) (z : Rd V tp tn t) (u : Rd V bo bn b) => two_no3 so ao tp bo sn sc an ac tn tc bn bc s a t b l r V x ss y sa z st u sb l1 l2 r1 r2 h0 h1 h2
  have hx := fun V (x : Rd V so sn s) (y : Rd V ao an a) => back_one so ao sn sc an ac s a l N1 hN1 V x ss y sa h0 l1 l2
  have hy := fun V (x : Rd V tp tn t) (y : Rd V bo bn b) => back_one tp bo tn tc bn bc t b r N2 hN2 V x st y sb h1 r1 r2
  have hg := fun V ao bo n m cap cap' (x : Rd V ao n (frm s l)) (y : Rd V bo m (frm t r)) (u : Sl ao n cap) (v : Sl bo m cap') => agree_any ao bo n m cap cap' (frm s l) (frm t r) V x y u v
  have t1 : (agrE (frm s l) (frm t r) != 0) = true := by simpa using h2
  clear h0 h1 h2 hN1 hN2
  generalize agrE (frm s l) (frm t r) = E at *
  go_enter Try.func4, Try.ntmps4
  go_wp2_with (first
    | (go_at_call 9; refine (begun4_any _).mono ?_; rintro e W1 ⟨rfl, k1⟩; have I1 := I0.below k1; have I1' := I1; obtain ⟨p0, p1, p2, p3, _, _, _, _, _⟩ := I1')
    | (go_at_call 16; refine (htw _ I1.s I1.a I1.t I1.b).mono ?_; rintro e W2 ⟨rfl, k2⟩; have I2 := (I1.below k2).below (box_below W2 (.cells #[.slice none 0 0, .slice none 0 0, .slice none 0 0, .slice none 0 0, .slice none 0 0, .slice none 0 0, .slice none 0 0] 42)); have I2' := I2; obtain ⟨g0, g1, g2, g3, _, _, _, _, _⟩ := I2'; obtain ⟨⟨_, pb1, pb2, _, _, _, _⟩, _⟩ := box7 (allocNew W2 (.cells #[.slice none 0 0, .slice none 0 0, .slice none 0 0, .slice none 0 0, .slice none 0 0, .slice none 0 0, .slice none 0 0] 42)))
    | (go_at_call 10; (with_reducible refine (hx _ I2.s I2.a).mono ?_); rintro e W3 ⟨fo, fn, fc, ag, e1, k1, d1, e2, k2, d2, rfl, xa, _, _, _, _, k3⟩; have I3 := (I2.below k3).below (box_below W3 (.cells #[.slice fo fn fc, .slice (some ⟨ag, 0, none⟩) N1 N1, .slice e1 k1 d1, .slice e2 k2 d2] 29)); have I3' := I3; obtain ⟨f0, f1, f2, f3, _, _, _, _, _⟩ := I3'; have pc1 := cellB (box_below W3 (.cells #[.slice fo fn fc, .slice (some ⟨ag, 0, none⟩) N1 N1, .slice e1 k1 d1, .slice e2 k2 d2] 29)) (cellB k3 pb1 (Nat.le_refl _)) (Nat.le_refl _); have pc2 := cellB (box_below W3 (.cells #[.slice fo fn fc, .slice (some ⟨ag, 0, none⟩) N1 N1, .slice e1 k1 d1, .slice e2 k2 d2] 29)) (cellB k3 pb2 (Nat.le_refl _)) (Nat.le_refl _); obtain ⟨ac0, _, _, _, _, _, _, _⟩ := box4 (allocNew W3 (.cells #[.slice fo fn fc, .slice (some ⟨ag, 0, none⟩) N1 N1, .slice e1 k1 d1, .slice e2 k2 d2] 29)); have xa' := xa.below (box_below W3 (.cells #[.slice fo fn fc, .slice (some ⟨ag, 0, none⟩) N1 N1, .slice e1 k1 d1, .slice e2 k2 d2] 29)) (Nat.le_refl _))
    | (go_at_call 10; (with_reducible refine (hy _ I3.t I3.b).mono ?_); rintro e W4 ⟨ho, hn, hc, bg, e3, k3', d3, e4, k4', d4, rfl, xb, _, _, _, _, k4⟩; have I4 := (I3.below k4).below (box_below W4 (.cells #[.slice ho hn hc, .slice (some ⟨bg, 0, none⟩) N2 N2, .slice e3 k3' d3, .slice e4 k4' d4] 29)); have pd1 := cellB (box_below W4 (.cells #[.slice ho hn hc, .slice (some ⟨bg, 0, none⟩) N2 N2, .slice e3 k3' d3, .slice e4 k4' d4] 29)) (cellB k4 pc1 (Nat.le_refl _)) (Nat.le_refl _); have pd2 := cellB (box_below W4 (.cells #[.slice ho hn hc, .slice (some ⟨bg, 0, none⟩) N2 N2, .slice e3 k3' d3, .slice e4 k4' d4] 29)) (cellB k4 pc2 (Nat.le_refl _)) (Nat.le_refl _); have ad0 := cellB (box_below W4 (.cells #[.slice ho hn hc, .slice (some ⟨bg, 0, none⟩) N2 N2, .slice e3 k3' d3, .slice e4 k4' d4] 29)) (cellB k4 ac0 (Nat.le_refl _)) (Nat.le_refl _); obtain ⟨bc0, _, _, _, _, _, _, _⟩ := box4 (allocNew W4 (.cells #[.slice ho hn hc, .slice (some ⟨bg, 0, none⟩) N2 N2, .slice e3 k3' d3, .slice e4 k4' d4] 29)); have xa2 := (xa'.below k4 (Nat.le_refl _)).below (box_below W4 (.cells #[.slice ho hn hc, .slice (some ⟨bg, 0, none⟩) N2 N2, .slice e3 k3' d3, .slice e4 k4' d4] 29)) (Nat.le_refl _); have xb2 := xb.below (box_below W4 (.cells #[.slice ho hn hc, .slice (some ⟨bg, 0, none⟩) N2 N2, .slice e3 k3' d3, .slice e4 k4' d4] 29)) (Nat.le_refl _))
    | (go_at_call 17; refine (hg _ _ _ _ _ _ _ xa2.rd xb2.rd xa2.sl xb2.sl).mono ?_; rintro e W5 ⟨co, cn, cc, rfl, _, k5⟩; have I5 := I4.below k5; have pe1 := cellB k5 pd1 (Nat.le_refl _); have pe2 := cellB k5 pd2 (Nat.le_refl _)))
  go_ret
  exact ⟨rfl, I5.bel⟩

theorem two_named (so ao tp bo : Option Addr) (sn sc an ac tn tc bn bc : Nat) (s a t b : List Int) (l r : Int) (w : World) (N1 N2 : Nat) (hN1 : npl s l = N1) (hN2 : npl t r = N2) (hs : Rd w so sn s) (ss : Sl so sn sc) (ha : Rd w ao an a) (sa : Sl ao an ac) (ht : Rd w tp tn t) (st : Sl tp tn tc) (hb : Rd w bo bn b) (sb : Sl bo bn bc) (l1 : -9223372036854775808 ≤ l) (l2 : l ≤ 9223372036854775807) (r1 : -9223372036854775808 ≤ r) (r2 : r ≤ 9223372036854775807) (h0 : mayA s a = 0) (h1 : mayA t b = 0) (h2 : agrE (frm s l) (frm t r) = 0) :
    Calls Try.prog 16 #[.agg #[.slice so sn sc, .slice ao an ac], .agg #[.slice tp tn tc, .slice bo bn bc], .int .i64 l, .int .i64 r] w fun e w' => ∃ o5 n5 c5 gg gg2 u1 n1 c1 u2 n2 c2 u3 n3 c3 u4 n4 c4, e = .returned (.tuple #[.agg #[.slice o5 n5 c5, .slice (some ⟨gg, 0, none⟩) N1 N1, .slice (some ⟨gg2, 0, none⟩) N2 N2, .slice u1 n1 c1, .slice u2 n2 c2, .slice u3 n3 c3, .slice u4 n4 c4], .int .i64 0]) ∧ Rd w' o5 n5 (agrL (frm s l) (frm t r)) ∧ As w' (some ⟨gg, 0, none⟩) N1 (cls s a l) ∧ As w' (some ⟨gg2, 0, none⟩) N2 (cls t b r) ∧ Rd w' u1 n1 (inn s l) ∧ Rd w' u2 n2 (List.replicate (clz s l) 0) ∧ Rd w' u3 n3 (inn t r) ∧ Rd w' u4 n4 (List.replicate (clz t r) 0) ∧ Below w.heap.size w w' := by
  subst hN1 hN2
  exact (two_ok so ao tp bo sn sc an ac tn tc bn bc s a t b l r w hs ss ha sa ht st hb sb l1 l2 r1 r2 h0 h1 h2).mono fun e w' ⟨o5, n5, c5, gg, gg2, u1, n1, c1, u2, n2, c2, u3, n3, c3, u4, n4, c4, y1, y2, y3, y4, y5, y6, y7, y8, y9, y10, y11⟩ => ⟨o5, n5, c5, gg, gg2, u1, n1, c1, u2, n2, c2, u3, n3, c3, u4, n4, c4, y1, y2.rd, y3.as (bk_of l h0).n4, y4.as (bk_of r h1).n4, y7.rd, y8.rd, y9.rd, y10.rd, y11⟩

set_option maxHeartbeats 20000000 in
set_option maxRecDepth 20000 in
theorem pairs_ok (so ao tp bo : Option Addr) (sn sc an ac tn tc bn bc : Nat) (s a t b : List Int) (l r : Int) (w : World) (hs : Rd w so sn s) (ss : Sl so sn sc) (ha : Rd w ao an a) (sa : Sl ao an ac) (ht : Rd w tp tn t) (st : Sl tp tn tc) (hb : Rd w bo bn b) (sb : Sl bo bn bc) (l1 : -9223372036854775808 ≤ l) (l2 : l ≤ 9223372036854775807) (r1 : -9223372036854775808 ≤ r) (r2 : r ≤ 9223372036854775807) (h0 : mayA s a = 0) (h1 : mayA t b = 0) (h2 : agrE (frm s l) (frm t r) = 0) :
    Calls Try.prog 4 #[.agg #[.slice so sn sc, .slice ao an ac], .agg #[.slice tp tn tc, .slice bo bn bc], .int .i64 l, .int .i64 r] w fun e w' => e = .returned (.bool true) ∧ Below w.heap.size w w' := by
  have K1 := bk_of l h0
  have K2 := bk_of r h1
  obtain ⟨N1, hN1⟩ : ∃ N, npl s l = N := ⟨_, rfl⟩
  obtain ⟨N2, hN2⟩ : ∃ N, npl t r = N := ⟨_, rfl⟩
  have I0 := xy_start w so sn sc ao an ac tp tn tc bo bn bc s a t b hs ha ht hb
  have htw := fun V (x : Rd V so sn s) (y : Rd V ao an a) (z : Rd V tp tn t) (u : Rd V bo bn b) => two_named so ao tp bo sn sc an ac tn tc bn bc s a t b l r V N1 N2 hN1 hN2 x ss y sa z st u sb l1 l2 r1 r2 h0 h1 h2
  have hx := fun V (x : Rd V so sn s) (y : Rd V ao an a) => back_one so ao sn sc an ac s a l N1 hN1 V x ss y sa h0 l1 l2
  have hy := fun V (x : Rd V tp tn t) (y : Rd V bo bn b) => back_one tp bo tn tc bn bc t b r N2 hN2 V x st y sb h1 r1 r2
  have hg := fun V ao bo n m cap cap' (x : Rd V ao n (frm s l)) (y : Rd V bo m (frm t r)) (u : Sl ao n cap) (v : Sl bo m cap') => agree_any ao bo n m cap cap' (frm s l) (frm t r) V x y u v
  rw [h2] at hg
  have hag : agrB (frm s l) (frm t r) = true := by
    unfold agrE at h2
    by_cases c : agrB (frm s l) (frm t r) = true
    · exact c
    · rw [if_neg c] at h2; omega
  obtain ⟨p1, p2, -⟩ := agr_true hag
  have ml := agr_may hag K1.mf K2.mf
  have bl := prF_bd ml
  have b1 := K1.n4
  have b2 := K2.n4
  rw [hN1] at b1
  rw [hN2] at b2
  have M1 : Hid ((N1 : Int) = pr (frm s l) ∧ mayF (frm s l) = 0) := ⟨by rw [← hN1]; exact K1.n, K1.mf⟩
  have M2 : Hid ((N2 : Int) = pr (frm t r) ∧ mayF (frm t r) = 0) := ⟨by rw [← hN2]; exact K2.n, K2.mf⟩
  have PP : Hid ((agrL (frm s l) (frm t r)).take (frm s l).length = frm s l ∧ (agrL (frm s l) (frm t r)).take (frm t r).length = frm t r) := ⟨p1, p2⟩
  have ML : Hid (mayF (agrL (frm s l) (frm t r)) = 0) := ml
  clear h0 h1 h2 hN1 hN2 hag p1 p2 K1 K2 ml
  generalize cls s a l = xs at *
  generalize cls t b r = ys at *
  generalize List.replicate (clz s l) (0 : Int) = Zs at *
  generalize List.replicate (clz t r) (0 : Int) = Zt at *
  generalize agrL (frm s l) (frm t r) = L at *
  generalize frm s l = F1 at *
  generalize frm t r = F2 at *
  generalize inn s l = Is at *
  generalize inn t r = It at *
  obtain ⟨n, hn⟩ : ∃ n : Nat, (n : Int) = pr L := ⟨(pr L).toNat, by omega⟩
  have HNn : Hid ((n : Int) = pr L) := hn
  have n4 : n ≤ 4096 := by omega
  have hsz := fun V co cn cc (x : Rd V co cn L) => size_any co cn cc L V x
  rw [ML.out, sizeF_ok ML.out, ← hn] at hsz
  clear hn bl
  go_enter Try.func4, Try.ntmps4
  go_wp2_with (first
    | (go_at_call 9; refine (begun4_any _).mono ?_; rintro e W1 ⟨rfl, k1⟩; have I1 := I0.below k1; have I1' := I1; obtain ⟨p0, p1, p2, p3, _, _, _, _, _⟩ := I1')
    | (go_at_call 16; refine (htw _ I1.s I1.a I1.t I1.b).mono ?_; rintro e W2 ⟨o5, n5, c5, gg, gg2, u1, n1, c1, u2, n2, c2, u3, n3, c3, u4, n4', c4, rfl, y2, y3, y4, y5, y6, y7, y8, k2⟩; have I2 := (I1.below k2).below (box_below W2 (.cells #[.slice o5 n5 c5, .slice (some ⟨gg, 0, none⟩) N1 N1, .slice (some ⟨gg2, 0, none⟩) N2 N2, .slice u1 n1 c1, .slice u2 n2 c2, .slice u3 n3 c3, .slice u4 n4' c4] 42)); have I2' := I2; obtain ⟨g0, g1, g2, g3, _, _, _, _, _⟩ := I2')
    | (go_at_call 10; (with_reducible refine (hx _ I2.s I2.a).mono ?_); rintro e W3 ⟨fo, fn, fc, ag, e1, m1, d1, e2, m2, d2, rfl, xa, xc, _, xi, xz, k3⟩; have I3 := (I2.below k3).below (box_below W3 (.cells #[.slice fo fn fc, .slice (some ⟨ag, 0, none⟩) N1 N1, .slice e1 m1 d1, .slice e2 m2 d2] 29)); have I3' := I3; obtain ⟨f0, f1, f2, f3, _, _, _, _, _⟩ := I3')
    | (go_at_call 10; (with_reducible refine (hy _ I3.t I3.b).mono ?_); rintro e W4 ⟨ho, hn, hc, bg, e3, m3, d3, e4, m4, d4, rfl, xb, xd, _, xj, xy, k4⟩; have I4 := (I3.below k4).below (box_below W4 (.cells #[.slice ho hn hc, .slice (some ⟨bg, 0, none⟩) N2 N2, .slice e3 m3 d3, .slice e4 m4 d4] 29)); have ad0 := cellB (box_below W4 (.cells #[.slice ho hn hc, .slice (some ⟨bg, 0, none⟩) N2 N2, .slice e3 m3 d3, .slice e4 m4 d4] 29)) (cellB k4 (box4 (allocNew W3 (.cells #[.slice fo fn fc, .slice (some ⟨ag, 0, none⟩) N1 N1, .slice e1 m1 d1, .slice e2 m2 d2] 29))).1 (Nat.le_refl _)) (Nat.le_refl _); obtain ⟨bc0, _, _, _, _, _, _, _⟩ := box4 (allocNew W4 (.cells #[.slice ho hn hc, .slice (some ⟨bg, 0, none⟩) N2 N2, .slice e3 m3 d3, .slice e4 m4 d4] 29)); have xa2 := ((xa.below (box_below W3 (.cells #[.slice fo fn fc, .slice (some ⟨ag, 0, none⟩) N1 N1, .slice e1 m1 d1, .slice e2 m2 d2] 29)) (Nat.le_refl _)).below k4 (Nat.le_refl _)).below (box_below W4 (.cells #[.slice ho hn hc, .slice (some ⟨bg, 0, none⟩) N2 N2, .slice e3 m3 d3, .slice e4 m4 d4] 29)) (Nat.le_refl _); have xb2 := xb.below (box_below W4 (.cells #[.slice ho hn hc, .slice (some ⟨bg, 0, none⟩) N2 N2, .slice e3 m3 d3, .slice e4 m4 d4] 29)) (Nat.le_refl _))
    | (go_at_call 17; refine (hg _ _ _ _ _ _ _ xa2.rd xb2.rd xa2.sl xb2.sl).mono ?_; rintro e W5 ⟨co, cn, cc, rfl, xf, k5⟩; have P5 : Pw w W5 o5 u1 u2 u3 u4 fo e1 e2 ho e3 e4 co W2.heap.size W3.heap.size W4.heap.size n5 c5 gg gg2 N1 N2 n1 c1 n2 c2 n3 c3 n4' c4 fn fc ag m1 d1 m2 d2 hn hc bg m3 d3 m4 d4 cn cc L F1 F2 Is Zs It Zt xs ys := (by
          have j4x := k5
          have j4 := btw (box_below W4 (.cells #[.slice ho hn hc, .slice (some ⟨bg, 0, none⟩) N2 N2, .slice e3 m3 d3, .slice e4 m4 d4] 29)) j4x (box_below W4 _).size
          have j3x := btw k4 j4 k4.size
          have j3 := btw (box_below W3 (.cells #[.slice fo fn fc, .slice (some ⟨ag, 0, none⟩) N1 N1, .slice e1 m1 d1, .slice e2 m2 d2] 29)) j3x (box_below W3 _).size
          have j2x := btw k3 j3 k3.size
          have j2 := btw (box_below W2 (.cells #[.slice o5 n5 c5, .slice (some ⟨gg, 0, none⟩) N1 N1, .slice (some ⟨gg2, 0, none⟩) N2 N2, .slice u1 n1 c1, .slice u2 n2 c2, .slice u3 n3 c3, .slice u4 n4' c4] 42)) j2x (box_below W2 _).size
          have j1 := btw k2 j2 k2.size
          have j0 := btw I1.bel j1 I1.bel.size
          obtain ⟨⟨r0, r1, r2, r3, r4, r5, r6⟩, _⟩ := box7 (allocNew W2 (.cells #[.slice o5 n5 c5, .slice (some ⟨gg, 0, none⟩) N1 N1, .slice (some ⟨gg2, 0, none⟩) N2 N2, .slice u1 n1 c1, .slice u2 n2 c2, .slice u3 n3 c3, .slice u4 n4' c4] 42))
          obtain ⟨s0, s1, s2, s3, _, _, _, _⟩ := box4 (allocNew W3 (.cells #[.slice fo fn fc, .slice (some ⟨ag, 0, none⟩) N1 N1, .slice e1 m1 d1, .slice e2 m2 d2] 29))
          obtain ⟨t0, t1, t2, t3, _, _, _, _⟩ := box4 (allocNew W4 (.cells #[.slice ho hn hc, .slice (some ⟨bg, 0, none⟩) N2 N2, .slice e3 m3 d3, .slice e4 m4 d4] 29))
          exact ⟨cellB j2x r0 (Nat.le_refl _), cellB j2x r1 (Nat.le_refl _), cellB j2x r2 (Nat.le_refl _), cellB j2x r3 (Nat.le_refl _), cellB j2x r4 (Nat.le_refl _), cellB j2x r5 (Nat.le_refl _), cellB j2x r6 (Nat.le_refl _),
            cellB j3x s0 (Nat.le_refl _), cellB j3x s1 (Nat.le_refl _), cellB j3x s2 (Nat.le_refl _), cellB j3x s3 (Nat.le_refl _), cellB j4x t0 (Nat.le_refl _), cellB j4x t1 (Nat.le_refl _), cellB j4x t2 (Nat.le_refl _), cellB j4x t3 (Nat.le_refl _),
            y2.below j2 (Nat.le_refl _), y5.below j2 (Nat.le_refl _), y6.below j2 (Nat.le_refl _), y7.below j2 (Nat.le_refl _), y8.below j2 (Nat.le_refl _), xa.rd.below j3 (Nat.le_refl _), xi.rd.below j3 (Nat.le_refl _), xz.rd.below j3 (Nat.le_refl _), xb.rd.below j4 (Nat.le_refl _), xj.rd.below j4 (Nat.le_refl _), xy.rd.below j4 (Nat.le_refl _), xf.rd,
            y3.below j2 (Nat.le_refl _), y4.below j2 (Nat.le_refl _), (xc.as b1).below j3 (Nat.le_refl _), (xd.as b2).below j4 (Nat.le_refl _), j0⟩); have P5' := P5; obtain ⟨ze_0, ze_1, ze_2, ze_3, ze_4, ze_5, ze_6, ze_7, ze_8, ze_9, ze_10, ze_11, ze_12, ze_13, ze_14, _, _, _, _, _, _, _, _, _, _, _, _, _, _, _, _, _⟩ := P5')
    | (go_at_call 12; (with_reducible refine (back_ints _ _ _ _ _ _ L _ P5.pf P5.cf).mono ?_); rintro e W6 ⟨rfl, k6⟩; have P6 := P5.below k6; have P6' := P6; obtain ⟨zf_0, zf_1, zf_2, zf_3, zf_4, zf_5, zf_6, zf_7, zf_8, zf_9, zf_10, zf_11, zf_12, zf_13, zf_14, _, _, _, _, _, _, _, _, _, _, _, _, _, _, _, _, _⟩ := P6')
    | (go_at_call 18; (with_reducible refine (eqAll_true _ _ _ _ _ xs xs _ P6.pl P6.al (fun _ _ => rfl)).mono ?_); rintro e W7 ⟨rfl, k7⟩; have P7 := P6.below k7; have P7' := P7; obtain ⟨zg_0, zg_1, zg_2, zg_3, zg_4, zg_5, zg_6, zg_7, zg_8, zg_9, zg_10, zg_11, zg_12, zg_13, zg_14, _, _, _, _, _, _, _, _, _, _, _, _, _, _, _, _, _⟩ := P7')
    | (go_at_call 18; (with_reducible refine (eqAll_true _ _ _ _ _ ys ys _ P7.pq P7.bl (fun _ _ => rfl)).mono ?_); rintro e W8 ⟨rfl, k8⟩; have P8 := P7.below k8; have P8' := P8; obtain ⟨zh_0, zh_1, zh_2, zh_3, zh_4, zh_5, zh_6, zh_7, zh_8, zh_9, zh_10, zh_11, zh_12, zh_13, zh_14, _, _, _, _, _, _, _, _, _, _, _, _, _, _, _, _, _⟩ := P8')
    | (go_at_call 14; (with_reducible refine (back_eq _ _ _ _ _ _ _ _ _ _ _ _ Is Zs _ P8.q1 P8.q2 P8.a1 P8.a2).mono ?_); rintro e W9 ⟨rfl, k9⟩; have P9 := P8.below k9; have P9' := P9; obtain ⟨zi_0, zi_1, zi_2, zi_3, zi_4, zi_5, zi_6, zi_7, zi_8, zi_9, zi_10, zi_11, zi_12, zi_13, zi_14, _, _, _, _, _, _, _, _, _, _, _, _, _, _, _, _, _⟩ := P9')
    | (go_at_call 14; (with_reducible refine (back_eq _ _ _ _ _ _ _ _ _ _ _ _ It Zt _ P9.q3 P9.q4 P9.b1 P9.b2).mono ?_); rintro e W10 ⟨rfl, k10⟩; have P10 := P9.below k10; have P10' := P10; obtain ⟨zj_0, zj_1, zj_2, zj_3, zj_4, zj_5, zj_6, zj_7, zj_8, zj_9, zj_10, zj_11, zj_12, zj_13, zj_14, _, _, _, _, _, _, _, _, _, _, _, _, _, _, _, _, _⟩ := P10')
    | (go_at_call 11; (with_reducible refine (hsz _ _ _ _ P10.cf).mono ?_); rintro e W11 ⟨rfl, hw⟩; rw [hw]; clear hw W11))
  have P := P10
  clear P5 P6 P7 P8 P9 P10 htw hx hy hg hsz I0 I1 I2 I3 I4
  have HL : Hid (L.length = cn ∧ F1.length = fn ∧ F2.length = hn) := ⟨P.cf.len, P.af.len, P.bf.len⟩
  go_loopw [19] (fun i V => ∃ k : Nat, k ≤ n ∧ i = .int .i64 (k : Nat) ∧ Pw w V o5 u1 u2 u3 u4 fo e1 e2 ho e3 e4 co W2.heap.size W3.heap.size W4.heap.size n5 c5 gg gg2 N1 N2 n1 c1 n2 c2 n3 c3 n4' c4 fn fc ag m1 d1 m2 d2 hn hc bg m3 d3 m4 d4 cn cc L F1 F2 Is Zs It Zt xs ys) (fun i _ => n - (intOf i).toNat)
  case atStart => exact ⟨0, Nat.zero_le _, rfl, P⟩
  case round =>
    obtain ⟨k, kn, rfl, J⟩ := hrel
    clear P
    by_cases hk : k < n
    · have t1 : decide ((k : Int) < (n : Int)) = true := by simp; omega
      have w1 : IntKind.i64.wrap ((k : Int) + 1) = (k : Int) + 1 := wrapIn _ (by omega)
      obtain ⟨r1, r2, _, _⟩ := pp_place PP.out.1 M1.out.2 ML.out HNn.out M1.out.1 hk
      obtain ⟨r3, r4, _, _⟩ := pp_place PP.out.2 M2.out.2 ML.out HNn.out M2.out.1 hk
      have hat := fun V co cn cc (x : Rd V co cn L) => pair_at ML.out HNn.out hk V co cn cc x
      have hp1 := fun V fo co fn fc m cc (x : Rd V fo fn F1) (y : Rd V co m (digs L k)) => pair_place PP.out.1 M1.out.2 ML.out HNn.out M1.out.1 hk V fo co fn fc m cc x y
      have hp2 := fun V fo co fn fc m cc (x : Rd V fo fn F2) (y : Rd V co m (digs L k)) => pair_place PP.out.2 M2.out.2 ML.out HNn.out M2.out.1 hk V fo co fn fc m cc x y
      have le1 : fn ≤ cn := by
        obtain ⟨x1, x2, x3⟩ := HL.out
        have := congrArg List.length PP.out.1
        rw [List.length_take] at this
        omega
      have le2 : hn ≤ cn := by
        obtain ⟨x1, x2, x3⟩ := HL.out
        have := congrArg List.length PP.out.2
        rw [List.length_take] at this
        omega
      have d1' : (n : Int) / (N1 : Int) = ((n / N1 : Nat) : Int) := (Int.natCast_ediv _ _).symm
      have d2' : (n : Int) / (N2 : Int) = ((n / N2 : Nat) : Int) := (Int.natCast_ediv _ _).symm
      have d3' : (k : Int) / ((n / N1 : Nat) : Int) = ((k / (n / N1) : Nat) : Int) := (Int.natCast_ediv _ _).symm
      have d4' : (k : Int) / ((n / N2 : Nat) : Int) = ((k / (n / N2) : Nat) : Int) := (Int.natCast_ediv _ _).symm
      have l1' : n / N1 ≤ n := Nat.div_le_self _ _
      have l2' : n / N2 ≤ n := Nat.div_le_self _ _
      have l3' : k / (n / N1) ≤ k := Nat.div_le_self _ _
      have l4' : k / (n / N2) ≤ k := Nat.div_le_self _ _
      generalize k / (n / N1) = q1 at *
      generalize k / (n / N2) = q2 at *
      generalize n / N1 = Q1 at *
      generalize n / N2 = Q2 at *
      have wq1 : IntKind.i64.wrap ((n : Int) / (N1 : Int)) = (Q1 : Int) := by rw [d1']; exact wrapIn _ (by clear d1' d2' d3' d4'; omega)
      have wq2 : IntKind.i64.wrap ((n : Int) / (N2 : Int)) = (Q2 : Int) := by rw [d2']; exact wrapIn _ (by clear d1' d2' d3' d4'; omega)
      have wq3 : IntKind.i64.wrap ((k : Int) / (Q1 : Int)) = (q1 : Int) := by rw [d3']; exact wrapIn _ (by clear d1' d2' d3' d4'; omega)
      have wq4 : IntKind.i64.wrap ((k : Int) / (Q2 : Int)) = (q2 : Int) := by rw [d4']; exact wrapIn _ (by clear d1' d2' d3' d4'; omega)
      clear d1' d2' d3' d4' l1' l2' l3' l4'
      have z1 : ((N1 : Int) == 0) = false := by simp; omega
      have z2 : ((N2 : Int) == 0) = false := by simp; omega
      have z3 : ¬ N1 = 0 := by omega
      have z4 : ¬ N2 = 0 := by omega
      have z5 : ¬ Q1 = 0 := by omega
      have z6 : ¬ Q2 = 0 := by omega
      go_wp2_with (go_at_call 19; (with_reducible refine (hat _ _ _ _ J.cf).mono ?_); rintro e V2 ⟨dp, dc, rfl, dd, ds, kk⟩; have J2 := J.below kk; have J2' := J2; obtain ⟨zb_0, zb_1, zb_2, zb_3, zb_4, zb_5, zb_6, zb_7, zb_8, zb_9, zb_10, zb_11, zb_12, zb_13, zb_14, _, _, _, _, _, _, _, _, _, _, _, _, _, _, _, _, _⟩ := J2')
      have le3 := ds.le
      have f1 : (fn : Int) ≤ (dc : Int) := by omega
      have f2 : (hn : Int) ≤ (dc : Int) := by omega
      have f3 : (fn : Int) ≤ (cn : Int) := by omega
      have f4 : (hn : Int) ≤ (cn : Int) := by omega
      have f5 : fn ≤ dc := by omega
      have f6 : hn ≤ dc := by omega
      have f7 : (0 : Int) ≤ (fn : Int) := by omega
      have f8 : (0 : Int) ≤ (hn : Int) := by omega
      clear hat J
      go_quiet (exact Calls.quiet_of_same (hp1 _ _ _ _ _ _ _ (J2.af.below (below_drewN (Below.refl _ _) _) (Nat.le_refl _)) (dd.below (below_drewN (Below.refl _ _) _) (Nat.le_refl _))))
      have J3 := J2.below (below_drewN (Below.refl _ _) nq)
      have dd3 := dd.below (below_drewN (Below.refl _ V2) nq) (Nat.le_refl _)
      generalize V2.drewN nq = V3 at *
      clear J2 dd kk zb_0 zb_1 zb_2 zb_3 zb_4 zb_5 zb_6 zb_7 zb_8 zb_9 zb_10 zb_11 zb_12 zb_13 zb_14
      have J3' := J3
      obtain ⟨zc_0, zc_1, zc_2, zc_3, zc_4, zc_5, zc_6, zc_7, zc_8, zc_9, zc_10, zc_11, zc_12, zc_13, zc_14, _, _, _, _, _, _, _, _, _, _, _, _, _, _, _, _, _⟩ := J3'
      go_wp2
      go_quiet (exact Calls.quiet_of_same (hp2 _ _ _ _ _ _ _ (J3.bf.below (below_drewN (Below.refl _ _) _) (Nat.le_refl _)) (dd3.below (below_drewN (Below.refl _ _) _) (Nat.le_refl _))))
      have J4 := J3.below (below_drewN (Below.refl _ _) nq)
      generalize V3.drewN nq = V4 at *
      clear J3 dd3 zc_0 zc_1 zc_2 zc_3 zc_4 zc_5 zc_6 zc_7 zc_8 zc_9 zc_10 zc_11 zc_12 zc_13 zc_14
      have J4' := J4
      obtain ⟨zd_0, zd_1, zd_2, zd_3, zd_4, zd_5, zd_6, zd_7, zd_8, zd_9, zd_10, zd_11, zd_12, zd_13, zd_14, _, _, _, _, _, _, _, _, _, _, _, _, _, _, _, _, _⟩ := J4'
      go_wp2
      go_roundw
      case rel => exact ⟨k + 1, by omega, by go_num, J4⟩
      case measure => simp [intOf]; omega
    · obtain rfl : k = n := by omega
      have t1 : decide ((k : Int) < (k : Int)) = false := by simp
      go_wp2
      go_ret
      exact ⟨rfl, J.bel⟩

theorem pairs_walk (so ao tp bo : Option Addr) (sn sc an ac tn tc bn bc : Nat) (s a t b : List Int) (l r : Int) (w : World) (hs : Rd w so sn s) (ss : Sl so sn sc) (ha : Rd w ao an a) (sa : Sl ao an ac) (ht : Rd w tp tn t) (st : Sl tp tn tc) (hb : Rd w bo bn b) (sb : Sl bo bn bc) (l1 : -9223372036854775808 ≤ l) (l2 : l ≤ 9223372036854775807) (r1 : -9223372036854775808 ≤ r) (r2 : r ≤ 9223372036854775807) :
    Calls Try.prog 4 #[.agg #[.slice so sn sc, .slice ao an ac], .agg #[.slice tp tn tc, .slice bo bn bc], .int .i64 l, .int .i64 r] w fun e w' => e = .returned (.bool true) ∧ Below w.heap.size w w' := by
  by_cases c0 : mayA s a = 0
  · by_cases c1 : mayA t b = 0
    · by_cases c2 : agrE (frm s l) (frm t r) = 0
      · exact pairs_ok so ao tp bo sn sc an ac tn tc bn bc s a t b l r w hs ss ha sa ht st hb sb l1 l2 r1 r2 c0 c1 c2
      · exact pairs_no3 so ao tp bo sn sc an ac tn tc bn bc s a t b l r w hs ss ha sa ht st hb sb l1 l2 r1 r2 c0 c1 c2
    · exact pairs_no2 so ao tp bo sn sc an ac tn tc bn bc s a t b l r w hs ss ha sa ht st hb sb l1 l2 r1 r2 c0 c1
  · exact pairs_no1 so ao tp bo sn sc an ac tn tc bn bc s a t b l r w hs ss ha sa ht st hb sb l1 l2 r1 r2 c0
end Go.Proofs.Ytjllmfahmlfljaa
