
/- SeekOrder: the law. -/

import Derived.Test.YtlncjmeabonpfaaYV
import Derived.Test.YtlncjmeabonpfaaYRb


namespace Go.Proofs.Ytlncjmeabonpfaa

open Go.RowKit

set_option linter.unusedVariables false

theorem ar_set {V : World} {B gb : Nat} {so : Option Addr} {sn sc : Nat} {ao : Option Addr} {an ac : Nat} {sh at' : List Int} (h1 : Ft 3 V B so sn sc sh) (h2 : Ft 2 V B ao an ac at') (hb : gb < B) (hz : V.heap[gb]? = some (.cells #[.slice none 0 0, .slice none 0 0] 25 (0, 0))) :
    Ar ((V.setCell ⟨gb, 0, none⟩ (.slice so sn sc)).setCell ⟨gb, 1, none⟩ (.slice ao an ac)) gb so sn sc ao an ac sh at' := by
  refine ⟨?_, (ft_setQ h1 hb _ _).rd, (ft_setQ h2 hb _ _).rd⟩
  have a1 := heap_setCell_same V gb 0 _ 25 (.slice so sn sc) hz
  have a2 := heap_setCell_same _ gb 1 _ 25 (.slice ao an ac) a1
  simpa using a2
theorem Ar.low {V V' : World} {B g : Nat} {o : Option Addr} {n c : Nat} {p : Option Addr} {m d : Nat} {S A : List Int} (h : Ar V g o n c p m d S A) (k : Below B V V') (hB : V.heap.size ≤ B) : Ar V' g o n c p m d S A :=
  ⟨(k.block g (Nat.lt_of_lt_of_le (Array.getElem?_eq_some_iff.1 h.box).1 hB)).trans h.box, h.s.below k hB, h.a.below k hB⟩
/-- A row of truths in block g of a world that is W below g. -/
structure Bs (g n : Nat) (W V : World) (f : Nat → Bool) : Prop where
  bel : Below g W V
  row : ∃ cur : List Value, V.heap[g]? = some (.cells cur.toArray 4 (0, 0)) ∧ cur.length = n ∧ ∀ j, j < n → cur[j]? = some (.bool (f j))
theorem Bs.lt {g n : Nat} {W V : World} {f : Nat → Bool} (h : Bs g n W V f) : g < V.heap.size := by
  obtain ⟨cur, h1, _⟩ := h.row
  exact (Array.getElem?_eq_some_iff.1 h1).1
theorem Bs.below {g n : Nat} {W V V' : World} {f : Nat → Bool} (h : Bs g n W V f) (k : Below V.heap.size V V') : Bs g n W V' f := by
  obtain ⟨cur, h1, h2⟩ := h.row
  exact ⟨h.bel.trans (k.mono (Nat.le_of_lt h.lt)), cur, (k.block g h.lt).trans h1, h2⟩
theorem Bs.slot {g n : Nat} {W V : World} {f : Nat → Bool} (h : Bs g n W V f) {j : Nat} (hj : j < n) : V.cell? ⟨g, j, none⟩ = some (.bool (f j)) ∧ V.frozen? ⟨g, j, none⟩ = false := by
  obtain ⟨cur, h1, h2, h3⟩ := h.row
  exact ⟨(cell_of_row V g j _ _ (0, 0) h1).trans (by simpa using h3 j hj), frozen_of_row V g j _ _ h1⟩
theorem Bs.set {g n : Nat} {W V : World} {f f' : Nat → Bool} (h : Bs g n W V f) {j : Nat} (hj : j < n) (h1 : f' j = true) (h2 : ∀ i, i ≠ j → f' i = f i) : Bs g n W (V.setCell ⟨g, j, none⟩ (.bool true)) f' := by
  obtain ⟨cur, c1, c2, c3⟩ := h.row
  have a1 := heap_setCell_same V g j _ 4 (.bool true) c1
  refine ⟨h.bel.setCell (p := ⟨g, j, none⟩) (Nat.le_refl _) _, cur.set j (.bool true), by simpa using a1, by simpa using c2, fun i hi => ?_⟩
  by_cases e : i = j
  · subst e; rw [List.getElem?_set_self (by omega), h1]
  · rw [List.getElem?_set_ne (fun x => e x.symm), h2 i e]; exact c3 i hi
theorem infoBQ : (Try.prog.info? 4).map (fun i => (i.zero, i.size, i.bytes)) = some (some (.bool false), 1, 1) := by kernel_rfl
theorem Bs.made (U : World) (n : Nat) : Bs U.heap.size n U (U.alloc (.cells (madeCells #[.bool false] n) 4)) (fun _ => false) := by
  have h := allocNew U (.cells (madeCells #[.bool false] n) 4)
  refine ⟨box_below _ _, (madeCells #[.bool false] n).toList, by simpa using h, by simp [madeCells], fun j hj => ?_⟩
  simp [madeCells, hj, Nat.mod_one]
theorem smT (V : World) (so ao uo bo : Option Addr) (sn sc an ac tn tc bn bc : Nat) (S A : List Int) (h : Rd V so sn S) (g : Rd V ao an A) (p : Rd V uo tn S) (q : Rd V bo bn A) :
    Calls Try.prog 13 #[.agg #[.slice so sn sc, .slice ao an ac], .agg #[.slice uo tn tc, .slice bo bn bc]] V fun e w' => e = .returned (.bool true) ∧ Below V.heap.size V w' :=
  (same_any so ao uo bo sn sc an ac tn tc bn bc S A S A V h g p q).mono fun e w' ⟨e1, e2⟩ => ⟨by rw [e1]; rw [show eqA S A S A = true by unfold eqA; rw [eqB_refl, eqB_refl]; rfl], e2⟩
/-- Between the rounds: the array and the two ops. -/
structure Oz (w V : World) (gp : Nat) (so : Option Addr) (sn sc : Nat) (ao : Option Addr) (an ac : Nat) (sh at' : List Int) : Prop where
  y : Ar V w.heap.size so sn sc ao an ac sh at'
  op : V.heap[gp]? = some (.cells #[.int .i64 37, .int .i64 38] 31 (0, 0))
  bel : Below w.heap.size w V
theorem Oz.below {w V V' : World} {gp B : Nat} {so : Option Addr} {sn sc : Nat} {ao : Option Addr} {an ac : Nat} {sh at' : List Int} (h : Oz w V gp so sn sc ao an ac sh at') (k : Below B V V') (hB : V.heap.size ≤ B) : Oz w V' gp so sn sc ao an ac sh at' :=
  ⟨h.y.low k hB, (k.block _ (Nat.lt_of_lt_of_le (Array.getElem?_eq_some_iff.1 h.op).1 hB)).trans h.op, h.bel.trans (k.mono (Nat.le_trans h.bel.size hB))⟩

set_option maxHeartbeats 1000000 in
set_option maxRecDepth 20000 in
theorem order_bad (so : Option Addr) (sn sc : Nat) (ao : Option Addr) (an ac : Nat) (sh at' : List Int) (w : World) (h : Rd w so sn sh) (hs : Sl so sn sc) (g : Rd w ao an at') (gs : Sl ao an ac) (mx : mayA sh at' ≠ 0) :
    Calls Try.prog 3 #[.agg #[.slice so sn sc, .slice ao an ac]] w fun e w' => e = .returned (.bool true) ∧ Below w.heap.size w w' := by
  have I0 := ar_new (c := sc) (d := ac) h g
  have kb := box_below w (.cells #[.slice so sn sc, .slice ao an ac] 25)
  have cM := fun V (I : Ar V w.heap.size so sn sc ao an ac sh at') => monadS_bad 37 so ao sn sc an ac sh at' V I.s I.a mx
  have cX := fun V (I : Ar V w.heap.size so sn sc ao an ac sh at') => mayA_any so ao sn sc an ac sh at' V I.s I.a
  generalize mayA sh at' = M at *
  have t1 : (M != 0) = true := by simpa using mx
  clear mx
  obtain ⟨x0, x1, _, _⟩ := box2 I0.box
  go_enter Try.func3, Try.ntmps3
  go_wp2_with (first
    | (go_at_call 7; (with_reducible refine (begun7_any _).mono ?_); rintro e W1 ⟨rfl, k1⟩; have I1 := I0.below k1; obtain ⟨p0, p1, _, _⟩ := box2 I1.box)
    | (go_at_call 8; (with_reducible refine (cX _ I1).mono ?_); rintro e W2 ⟨rfl, k2⟩; have I2 := I1.below k2; obtain ⟨q0, q1, _, _⟩ := box2 I2.box)
    | (go_at_call 9; (with_reducible refine (cM _ I2).mono ?_); rintro e W3 ⟨oa, na, ca, pa, ma, da, SA, AA, rfl, f2, f2a, ⟨rfl, rfl⟩, k3⟩))
  go_ret
  exact ⟨rfl, ((kb.trans (k1.mono kb.size)).trans ((k2.trans (k3.mono k2.size)).mono (Nat.le_trans kb.size k1.size))).trans ((box_below W3 _).mono (Nat.le_trans (Nat.le_trans kb.size k1.size) (Nat.le_trans k2.size k3.size)))⟩

set_option maxHeartbeats 16000000 in
set_option maxRecDepth 20000 in
theorem order_walk (so : Option Addr) (sn sc : Nat) (ao : Option Addr) (an ac : Nat) (sh at' : List Int) (w : World) (h : Rd w so sn sh) (hs : Sl so sn sc) (g : Rd w ao an at') (gs : Sl ao an ac) (mx : mayA sh at' = 0) :
    Calls Try.prog 3 #[.agg #[.slice so sn sc, .slice ao an ac]] w fun e w' => e = .returned (.bool true) ∧ Below w.heap.size w w' := by
  have I0 := ar_new (c := sc) (d := ac) h g
  have kb := box_below w (.cells #[.slice so sn sc, .slice ao an ac] 25)
  have cX := fun V (I : Ar V w.heap.size so sn sc ao an ac sh at') => mayA_any so ao sn sc an ac sh at' V I.s I.a
  have cT := fun V (I : Ar V w.heap.size so sn sc ao an ac sh at') => items_any so ao sn sc an ac sh at' V I.s I.a
  rw [mx] at cX
  rw [show itm sh at' = tal sh from if_pos mx, ← itN_tal (mayA_zero mx).1] at cT
  have cGUp := fun V (I : Ar V w.heap.size so sn sc ao an ac sh at') => monadS_up so ao sn sc an ac sh at' (fun S A => S = [(itN sh : Int)] ∧ Pls (cUp (itX sh at')) (itN sh) A) 0 V I.s I.a mx (fun U k => (gradeUp_any so ao sn sc an ac sh at' U (I.s.below k (Nat.le_refl _)) hs (I.a.below k (Nat.le_refl _)) gs mx).mono fun e w' ⟨o1, n1, c1, o2, n2, c2, ps, e1, f1, f2, P, b⟩ => ⟨o1, n1, c1, o2, n2, c2, _, ps, e1, f1, f2, ⟨rfl, P⟩, b⟩)
  have cGDn := fun V (I : Ar V w.heap.size so sn sc ao an ac sh at') => monadS_down so ao sn sc an ac sh at' (fun S A => S = [(itN sh : Int)] ∧ Pls (cDn (itX sh at')) (itN sh) A) 0 V I.s I.a mx (fun U k => (gradeDown_any so ao sn sc an ac sh at' U (I.s.below k (Nat.le_refl _)) hs (I.a.below k (Nat.le_refl _)) gs mx).mono fun e w' ⟨o1, n1, c1, o2, n2, c2, ps, e1, f1, f2, P, b⟩ => ⟨o1, n1, c1, o2, n2, c2, _, ps, e1, f1, f2, ⟨rfl, P⟩, b⟩)
  have cSUp := fun V (I : Ar V w.heap.size so sn sc ao an ac sh at') => dyadS_up so ao so ao sn sc an ac sn sc an ac sh at' sh at' _ 0 V I.s I.a I.s I.a mx mx (fun U k => sortUp_any so ao so ao sn sc an ac sn sc an ac sh at' sh at' U (I.s.below k (Nat.le_refl _)) hs (I.a.below k (Nat.le_refl _)) gs mx (I.s.below k (Nat.le_refl _)) hs (I.a.below k (Nat.le_refl _)) gs mx rfl)
  have cSDn := fun V (I : Ar V w.heap.size so sn sc ao an ac sh at') => dyadS_down so ao so ao sn sc an ac sn sc an ac sh at' sh at' _ 0 V I.s I.a I.s I.a mx mx (fun U k => sortDown_any so ao so ao sn sc an ac sn sc an ac sh at' sh at' U (I.s.below k (Nat.le_refl _)) hs (I.a.below k (Nat.le_refl _)) gs mx (I.s.below k (Nat.le_refl _)) hs (I.a.below k (Nat.le_refl _)) gs mx rfl)
  have hN4 := itN_le (mayA_zero mx).1
  have HCH : Hid (∀ ps : List Int, ps.length = itN sh → inN (itN sh) ps → mayA ((itN sh : Int) :: sh.drop 1) (chA (itX sh at') ps (itN sh)) = 0 ∧ itN ((itN sh : Int) :: sh.drop 1) = itN sh ∧ ∀ i, i < itN sh → itX ((itN sh : Int) :: sh.drop 1) (chA (itX sh at') ps (itN sh)) i = itX sh at' (nth ps i).toNat) := fun ps hl hp => cho_may mx (Nat.le_refl _) hl hp
  have HIY : Hid (∀ k, k < itN sh → itmE sh at' k = 0 ∧ itmS sh at' k = (itX sh at' k).1 ∧ itmA sh at' k = (itX sh at' k).2) := fun k hk => itX_itm mx hk
  generalize itX sh at' = xs at *
  generalize itN sh = n at *
  clear mx
  have HS : Hid (Sl so sn sc ∧ Sl ao an ac) := ⟨hs, gs⟩
  obtain ⟨x0, x1, _, _⟩ := box2 I0.box
  go_enter Try.func3, Try.ntmps3
  go_wp2_with (first
    | (go_at_call 7; (with_reducible refine (begun7_any _).mono ?_); rintro e W1 ⟨rfl, k1⟩; have I1 := I0.below k1; obtain ⟨p0, p1, _, _⟩ := box2 I1.box)
    | (go_at_call 8; (with_reducible refine (cX _ I1).mono ?_); rintro e W2 ⟨rfl, k2⟩; have I2 := I1.below k2; have ko := box_below W2 (.cells #[.int .i64 37, .int .i64 38] 31); have I2' := I2.below ko; obtain ⟨q0, q1, _, _⟩ := box2 I2'.box)
    | (go_at_call 10; (with_reducible refine (cT _ I2').mono ?_); rintro e W3 ⟨rfl, k3⟩; have I3 := I2'.below k3; have O3 : Oz w W3 W2.heap.size so sn sc ao an ac sh at' := ⟨I3, (k3.block _ (by simp)).trans (allocNew W2 _), (((kb.trans (k1.mono kb.size)).trans (k2.mono (Nat.le_trans kb.size k1.size))).trans (ko.mono (Nat.le_trans (Nat.le_trans kb.size k1.size) k2.size))).trans (k3.mono (by have := kb.size; have := k1.size; have := k2.size; have := ko.size; omega))⟩))
  generalize W2.heap.size = gp at *
  clear I0 I1 I2 I2' I3 kb k1 k2 k3 ko p0 p1 q0 q1 x0 x1 cX
  go_loopw [7] (fun i V => (i = .int .i64 0 ∨ i = .int .i64 1 ∨ i = .int .i64 2) ∧ Oz w V gp so sn sc ao an ac sh at') (fun i _ => 2 - (intOf i).toNat)
  case atStart => exact ⟨.inl rfl, O3⟩
  case round =>
    obtain ⟨rfl | rfl | rfl, O⟩ := hrel
    · as_aux_lemma =>
      have b2 : (0 : Int) < 2 := by omega
      obtain ⟨y0, y1, _, _⟩ := box2 O.y.box
      obtain ⟨u0, u1, _, _⟩ := box2 O.op
      have ly := (Array.getElem?_eq_some_iff.1 O.y.box).1
      have lp := (Array.getElem?_eq_some_iff.1 O.op).1
      have al1 : ∀ V, Below wr.heap.size wr V → V.cell? ⟨w.heap.size, 0, none⟩ = some (.slice so sn sc) ∧ V.cell? ⟨w.heap.size, 1, none⟩ = some (.slice ao an ac) ∧ V.cell? ⟨gp, 0, none⟩ = some (.int .i64 37) ∧ Below wr.heap.size wr V := fun V hV => ⟨(hV.cell (p := ⟨w.heap.size, 0, none⟩) ly).trans y0, (hV.cell (p := ⟨w.heap.size, 1, none⟩) ly).trans y1, (hV.cell (p := ⟨gp, 0, none⟩) lp).trans u0, hV⟩
      go_upto_region 11 with fail
      go_cut [8, 9] from 41 to 48 (fun s8 s9 V => ∃ ga oa na ca pa ma da ps, s8 = .pointer (some ⟨ga, 0, none⟩) ∧ s9 = .int .i64 0 ∧ Pls (cUp xs) n ps ∧ Ar V ga oa na ca pa ma da [(n : Int)] ps ∧ Oz w V gp so sn sc ao an ac sh at')
      case first =>
        go_region_held3 (fun V => V.cell? ⟨w.heap.size, 0, none⟩ = some (.slice so sn sc) ∧ V.cell? ⟨w.heap.size, 1, none⟩ = some (.slice ao an ac) ∧ V.cell? ⟨gp, 0, none⟩ = some (.int .i64 37) ∧ Below wr.heap.size wr V) (first | exact al1 _ (by assumption) | exact al1 _ (Below.refl _ _).drew | exact al1 _ (box_below wr _).drew | exact al1 _ (G1.alloc G1.size _) | exact al1 _ (below_set2 _ _ _ _ G1 (by first | exact Nat.le_refl _ | exact G1.size) (Nat.le_refl _)))
          (first
            | (go_at_call 9; (with_reducible refine (cGUp (wr.alloc (.cells #[.slice none 0 0, .slice none 0 0] 25)).drew (O.y.below (box_below wr (.cells #[.slice none 0 0, .slice none 0 0] 25)).drew)).mono ?_); rintro e v1 ⟨oa, na, ca, pa, ma, da, SA, ps, rfl, f1, f2, ⟨rfl, PS⟩, j1⟩; have G1 : Below wr.heap.size wr v1 := (box_below wr (.cells #[.slice none 0 0, .slice none 0 0] 25)).drew.trans (j1.mono (by simp)); have zz := (j1.block wr.heap.size (by simp)).trans (allocNew wr (.cells #[.slice none 0 0, .slice none 0 0] 25)); obtain ⟨q0, q1, q2, q3⟩ := box2 zz)
            | (go_at_call 9; (with_reducible refine (cGUp wr.drew (O.y.below (Below.refl _ wr).drew)).mono ?_); rintro e v1 ⟨oa, na, ca, pa, ma, da, SA, ps, rfl, f1, f2, ⟨rfl, PS⟩, j1⟩; have G1 : Below wr.heap.size wr v1 := (Below.refl _ wr).drew.trans j1))
        all_goals
          go_wp2
          go_meet
          case rel =>
            have gs1 := G1.size
            first
              | exact ⟨_, _, _, _, _, _, _, ps, rfl, rfl, PS, ar_new f1.rd f2.rd, (O.below G1 (Nat.le_refl _)).below (box_below v1 _) (Nat.le_refl _)⟩
              | exact ⟨_, _, _, _, _, _, _, ps, rfl, rfl, PS, ar_set f1 f2 (by simp) zz, O.below (below_set2 _ _ _ _ G1 (Nat.le_refl _) (Nat.le_refl _)) (Nat.le_refl _)⟩
      case rest =>
        obtain ⟨ga, oa, na, ca, pa, ma, da, ps, rfl, rfl, PS, AA, O2⟩ := hcut
        obtain ⟨y0', y1', _, _⟩ := box2 O2.y.box
        obtain ⟨u0', u1', _, _⟩ := box2 O2.op
        have ly' := (Array.getElem?_eq_some_iff.1 O2.y.box).1
        have lp' := (Array.getElem?_eq_some_iff.1 O2.op).1
        clear al1 O y0 y1 u0 u1 ly lp
        have al2 : ∀ V, Below wc.heap.size wc V → V.cell? ⟨w.heap.size, 0, none⟩ = some (.slice so sn sc) ∧ V.cell? ⟨w.heap.size, 1, none⟩ = some (.slice ao an ac) ∧ V.cell? ⟨gp, 0, none⟩ = some (.int .i64 37) ∧ Below wc.heap.size wc V := fun V hV => ⟨(hV.cell (p := ⟨w.heap.size, 0, none⟩) ly').trans y0', (hV.cell (p := ⟨w.heap.size, 1, none⟩) ly').trans y1', (hV.cell (p := ⟨gp, 0, none⟩) lp').trans u0', hV⟩
        go_upto_region 12 with fail
        go_cut [10, 11] from 49 to 57 (fun s10 s11 V => ∃ gb ob nb cb pb mb db, s10 = .pointer (some ⟨gb, 0, none⟩) ∧ s11 = .int .i64 0 ∧ Sl ob nb cb ∧ Sl pb mb db ∧ Ar V gb ob nb cb pb mb db ((n : Int) :: sh.drop 1) (chA xs ps n) ∧ Ar V ga oa na ca pa ma da [(n : Int)] ps ∧ Oz w V gp so sn sc ao an ac sh at')
        case first =>
          go_region_held3 (fun V => V.cell? ⟨w.heap.size, 0, none⟩ = some (.slice so sn sc) ∧ V.cell? ⟨w.heap.size, 1, none⟩ = some (.slice ao an ac) ∧ V.cell? ⟨gp, 0, none⟩ = some (.int .i64 37) ∧ Below wc.heap.size wc V) (first | exact al2 _ (by assumption) | exact al2 _ (Below.refl _ _).drew | exact al2 _ (box_below wc _).drew | exact al2 _ (G1.alloc G1.size _) | exact al2 _ (below_set2 _ _ _ _ G1 (by first | exact Nat.le_refl _ | exact G1.size) (Nat.le_refl _)))
            (first
              | (go_at_call 11; (with_reducible refine (cSUp (wc.alloc (.cells #[.slice none 0 0, .slice none 0 0] 25)).drew (O2.y.below (box_below wc (.cells #[.slice none 0 0, .slice none 0 0] 25)).drew)).mono ?_); rintro e v1 ⟨ob, nb, cb, pb, mb, db, SA, AB, rfl, f1, f2, ⟨qs, PQ, rfl, rfl⟩, j1⟩; have G1 : Below wc.heap.size wc v1 := (box_below wc (.cells #[.slice none 0 0, .slice none 0 0] 25)).drew.trans (j1.mono (by simp)); have zz := (j1.block wc.heap.size (by simp)).trans (allocNew wc (.cells #[.slice none 0 0, .slice none 0 0] 25)); obtain ⟨q0, q1, q2, q3⟩ := box2 zz)
              | (go_at_call 11; (with_reducible refine (cSUp wc.drew (O2.y.below (Below.refl _ wc).drew)).mono ?_); rintro e v1 ⟨ob, nb, cb, pb, mb, db, SA, AB, rfl, f1, f2, ⟨qs, PQ, rfl, rfl⟩, j1⟩; have G1 : Below wc.heap.size wc v1 := (Below.refl _ wc).drew.trans j1))
          all_goals
            go_wp2
            go_meet
            case rel =>
              have gs1 := G1.size
              have eq := PQ.uniq (cUp3 n xs) PS
              subst eq
              first
                | exact ⟨_, _, _, _, _, _, _, rfl, rfl, f1.sl, f2.sl, ar_new f1.rd f2.rd, (AA.low G1 (Nat.le_refl _)).below (box_below v1 _), (O2.below G1 (Nat.le_refl _)).below (box_below v1 _) (Nat.le_refl _)⟩
                | exact ⟨_, _, _, _, _, _, _, rfl, rfl, f1.sl, f2.sl, ar_set f1 f2 (by simp) zz, AA.low (below_set2 _ _ _ _ G1 (Nat.le_refl _) (Nat.le_refl _)) (Nat.le_refl _), O2.below (below_set2 _ _ _ _ G1 (Nat.le_refl _) (Nat.le_refl _)) (Nat.le_refl _)⟩
        case rest =>
          obtain ⟨gb, ob, nb, cb, pb, mb, db, rfl, rfl, hob, hpb, BB, A3, O3⟩ := hcut
          clear al2 O2 AA y0' y1' u0' u1' ly' lp'
          obtain ⟨hmb, hnb, hxb⟩ := HCH.out ps PS.len PS.inn
          have HPS : Hid (Pls (cUp xs) n ps) := PS
          have eT : itm ((n : Int) :: sh.drop 1) (chA xs ps n) = (n : Int) := by rw [show itm ((n : Int) :: sh.drop 1) (chA xs ps n) = tal ((n : Int) :: sh.drop 1) from if_pos hmb, ← itN_tal (mayA_zero hmb).1, hnb]
          have cTb := fun V (I : Ar V gb ob nb cb pb mb db ((n : Int) :: sh.drop 1) (chA xs ps n)) => items_any ob pb nb cb mb db _ _ V I.s I.a
          have cMb := fun V (I : Ar V gb ob nb cb pb mb db ((n : Int) :: sh.drop 1) (chA xs ps n)) => mayA_any ob pb nb cb mb db _ _ V I.s I.a
          rw [eT] at cTb
          rw [hmb] at cMb
          have cIB : ∀ V, Ar V gb ob nb cb pb mb db ((n : Int) :: sh.drop 1) (chA xs ps n) → ∀ (k j : Nat), k < n → nth ps k = (j : Int) → Calls Try.prog 12 #[.agg #[.slice ob nb cb, .slice pb mb db], .int .i64 (k : Nat)] V (fun e w' => ∃ o1 n1 c1 o2 n2 c2, e = .returned (.tuple #[.agg #[.slice o1 n1 c1, .slice o2 n2 c2], .int .i64 0]) ∧ Ft 3 w' V.heap.size o1 n1 c1 (xs j).1 ∧ Ft 2 w' V.heap.size o2 n2 c2 (xs j).2 ∧ Below V.heap.size V w') := fun V I k j hk hj => (item_any ob pb nb cb mb db ((n : Int) :: sh.drop 1) (chA xs ps n) (k : Int) V I.s hob I.a hpb).mono (by
            rintro e w' ⟨o1, n1, c1, o2, n2, c2, rfl, f1, f2, _, b⟩
            obtain ⟨q1, q2, q3⟩ := itX_itm hmb (k := k) (by rw [hnb]; exact hk)
            have q4 := hxb k hk
            rw [hj, Int.toNat_natCast] at q4
            rw [q4] at q2 q3
            rw [q2] at f1
            rw [q3] at f2
            exact ⟨o1, n1, c1, o2, n2, c2, by rw [q1], f1, f2, b⟩)
          have cIY : ∀ V, Ar V w.heap.size so sn sc ao an ac sh at' → ∀ (j : Nat), j < n → Calls Try.prog 12 #[.agg #[.slice so sn sc, .slice ao an ac], .int .i64 (j : Nat)] V (fun e w' => ∃ o1 n1 c1 o2 n2 c2, e = .returned (.tuple #[.agg #[.slice o1 n1 c1, .slice o2 n2 c2], .int .i64 0]) ∧ Ft 3 w' V.heap.size o1 n1 c1 (xs j).1 ∧ Ft 2 w' V.heap.size o2 n2 c2 (xs j).2 ∧ Below V.heap.size V w') := fun V I j hj => (item_any so ao sn sc an ac sh at' (j : Int) V I.s hs I.a gs).mono (by
            rintro e w' ⟨o1, n1, c1, o2, n2, c2, rfl, f1, f2, _, b⟩
            obtain ⟨q1, q2, q3⟩ := HIY.out j hj
            rw [q2] at f1
            rw [q3] at f2
            exact ⟨o1, n1, c1, o2, n2, c2, by rw [q1], f1, f2, b⟩)
          have na1 : na = 1 := A3.s.len.symm
          have ma1 : ma = n := A3.a.len.symm.trans PS.len
          subst na1 ma1
          obtain ⟨gq, qoff, eo, hgq, hcq⟩ := A3.s.cells (by omega)
          subst eo
          have cs0 : wc.cell? ⟨gq, qoff, none⟩ = some (.int .i64 (ma : Int)) := by have := hcq 0 (by omega); rwa [Nat.add_zero] at this
          obtain ⟨a0, a1, _, _⟩ := box2 A3.box
          obtain ⟨d0, d1, _, _⟩ := box2 BB.box
          have tn : ((ma : Int) != (ma : Int)) = false := by simp
          have hmk := fun (X : World) => run_make_row' (P := Try.prog) 34 4 (.bool false) 1 Try.underlying34 infoBQ rfl .i64 .i64 ma (by omega) (by omega) X
          clear hcq hmb hnb hxb eT PS
          go_wp2_with (first
            | (go_at_call 10; (with_reducible refine (cTb _ BB).mono ?_); rintro e W5 ⟨rfl, k5⟩; have B5 := BB.below k5; obtain ⟨d0, d1, _, _⟩ := box2 B5.box)
            | (go_at_call 8; (with_reducible refine (cMb _ B5).mono ?_); rintro e W6 ⟨rfl, k6⟩; have K6 := k5.trans (k6.mono k5.size); have B6 := BB.below K6; have A6 := A3.below K6; have O6 := O3.below K6 (Nat.le_refl _)))
          have S0 := Bs.made W6 ma
          have LO : ∀ {V : World}, Below W6.heap.size W6 V → Ar V gb ob nb cb pb mb db ((ma : Int) :: sh.drop 1) (chA xs ps ma) ∧ Ar V ga (some ⟨gq, qoff, none⟩) 1 ca pa ma da [(ma : Int)] ps ∧ Oz w V gp so sn sc ao an ac sh at' := fun hV => ⟨B6.low hV (Nat.le_refl _), A6.low hV (Nat.le_refl _), O6.below hV (Nat.le_refl _)⟩
          clear k5 k6 K6 B5 BB A3 O3 B6 A6 O6 cTb cMb a0 a1 d0 d1 cs0 hmk
          generalize W6.heap.size = gs' at *
          go_loopw [13] (fun i V => ∃ (k : Nat) (f : Nat → Bool), k ≤ ma ∧ i = .int .i64 (k : Nat) ∧ Bs gs' ma W6 V f ∧ ∀ j, f j = true ↔ ∃ t, t < k ∧ nth ps t = ((j : Nat) : Int)) (fun i _ => ma - (intOf i).toNat)
          case atStart => exact ⟨0, _, Nat.zero_le _, rfl, S0, fun j => ⟨fun h => by simp at h, fun ⟨t, ht, _⟩ => by omega⟩⟩
          case round =>
            obtain ⟨k, f, hk, rfl, SB, HF⟩ := hrel
            clear S0
            by_cases hlt : k < ma
            · have t1 : decide ((k : Int) < (ma : Int)) = true := by simp; omega
              have wk := wrY (z := (k : Int) + 1) (by omega) (by omega)
              have hpk := HPS.out.inn k (by rw [HPS.out.len]; exact hlt)
              obtain ⟨j, hj⟩ : ∃ j : Nat, nth ps k = (j : Int) := ⟨(nth ps k).toNat, by omega⟩
              rw [hj] at hpk
              obtain ⟨LB, LA, LOz⟩ := LO SB.bel
              obtain ⟨gr, roff, ep, hgr, hcr⟩ := LA.a.cells (by omega)
              subst ep
              have ck := hcr k hlt
              rw [hj] at ck
              have fj : f j = false := by
                cases hfj : f j with
                | false => rfl
                | true =>
                  obtain ⟨t, ht, et⟩ := (HF j).1 hfj
                  have s := HPS.out.so t k (Nat.zero_le _) ht hlt
                  rw [et, hj] at s
                  exact absurd (lx_irr (cUp3 ma xs) hpk s) id
              obtain ⟨sl1, sl2⟩ := SB.slot (j := j) (by omega)
              rw [fj] at sl1
              have S1 := SB.set (f' := fun i => f i || decide (i = j)) (j := j) (by omega) (by simp) (fun i hi => by simp [hi])
              have HF1 : Hid (∀ i, (f i || decide (i = j)) = true ↔ ∃ t, t < k + 1 ∧ nth ps t = ((i : Nat) : Int)) := fun i => by
                constructor
                · intro hh
                  rcases Bool.or_eq_true _ _ |>.mp hh with h1 | h1
                  · obtain ⟨t, ht, et⟩ := (HF i).1 h1
                    exact ⟨t, by omega, et⟩
                  · have : i = j := by simpa using h1
                    exact ⟨k, by omega, by rw [this]; exact hj⟩
                · rintro ⟨t, ht, et⟩
                  rcases Nat.lt_or_ge t k with x | x
                  · rw [(HF i).2 ⟨t, x, et⟩]; rfl
                  · obtain rfl : t = k := by omega
                    have : i = j := by omega
                    simp [this]
              have bk : (k : Int) < (ma : Int) := by omega
              have bj : (j : Int) < (ma : Int) := by omega
              have t2 : decide ((j : Int) < 0) = false := by simp
              have t3 : decide ((ma : Int) ≤ (j : Int)) = false := by simp; omega
              obtain ⟨a0, a1, _, _⟩ := box2 LA.box
              have hjn : j < ma := by omega
              have HJ : Hid (nth ps k = (j : Int)) := hj
              have y1 := box2 (LO S1.bel).2.2.y.box
              obtain ⟨y10, y11, _, _⟩ := y1
              clear hcr hj fj HF hpk
              by_cases hk0 : k = 0
              · have t4 : ((k : Int) == 0) = true := by simp; omega
                clear hk0
                go_wp2_with (first
                  | (go_at_call 12; (with_reducible refine (cIY _ (LO S1.bel).2.2.y j hjn).mono ?_); rintro e W7 ⟨o1, n1, c1, o2, n2, c2, rfl, f1, f2, k7⟩; have S2 := (S1.below k7).below (box_below W7 (.cells #[.slice o1 n1 c1, .slice o2 n2 c2] 25)); have X7 := ar_new (c := c1) (d := c2) f1.rd f2.rd; obtain ⟨z0, z1, _, _⟩ := box2 (LO S2.bel).1.box)
                  | (go_at_call 12; (with_reducible refine (cIB _ (LO S2.bel).1 k j hlt HJ.out).mono ?_); rintro e W8 ⟨e1, e2, e3, e4, e5, e6, rfl, f3, f4, k8⟩; have S3 := (S2.below k8).below (box_below W8 (.cells #[.slice e1 e2 e3, .slice e4 e5 e6] 25)); have X8 := (X7.below k8).below (box_below W8 (.cells #[.slice e1 e2 e3, .slice e4 e5 e6] 25)); have Z8 := ar_new (c := e3) (d := e6) f3.rd f4.rd; obtain ⟨v0, v1, _, _⟩ := box2 X8.box; obtain ⟨v2, v3, _, _⟩ := box2 Z8.box)
                  | (go_at_call 13; (with_reducible refine (smT _ _ _ _ _ _ _ _ _ _ _ _ _ _ _ X8.s X8.a Z8.s Z8.a).mono ?_); rintro e W9 ⟨rfl, k9⟩; have S4 := S3.below k9))
                go_roundw
                case rel => exact ⟨k + 1, _, by omega, by go_num, S4, HF1.out⟩
                case measure => simp [intOf]; omega
              · obtain ⟨k1, hk1⟩ : ∃ k1 : Nat, k1 + 1 = k := ⟨k - 1, by omega⟩
                have ws : IntKind.i64.wrap ((k : Int) - 1) = (k1 : Int) := (wrapIn _ (by omega)).trans (by omega)
                have t4 : ((k : Int) == 0) = false := by simp; omega
                have hp1 := HPS.out.inn k1 (by rw [HPS.out.len]; omega)
                obtain ⟨i, hi⟩ : ∃ i : Nat, nth ps k1 = (i : Int) := ⟨(nth ps k1).toNat, by omega⟩
                rw [hi] at hp1
                have hin : i < ma := by omega
                have bk1 : (k1 : Int) < (ma : Int) := by omega
                have hlx := HPS.out.so k1 k (Nat.zero_le _) (by omega) hlt
                rw [hi, HJ.out] at hlx
                have HI : Hid (nth ps k1 = (i : Int) ∧ k1 < ma) := ⟨hi, by omega⟩
                clear hk1 hi hp1 hk0
                go_upto_region 28 with (first
                  | (go_at_call 12; (with_reducible refine (cIY _ (LO S1.bel).2.2.y j hjn).mono ?_); rintro e W7 ⟨o1, n1, c1, o2, n2, c2, rfl, f1, f2, k7⟩; have S2 := (S1.below k7).below (box_below W7 (.cells #[.slice o1 n1 c1, .slice o2 n2 c2] 25)); have X7 := ar_new (c := c1) (d := c2) f1.rd f2.rd; obtain ⟨z0, z1, _, _⟩ := box2 (LO S2.bel).1.box)
                  | (go_at_call 12; (with_reducible refine (cIB _ (LO S2.bel).1 k j hlt HJ.out).mono ?_); rintro e W8 ⟨e1, e2, e3, e4, e5, e6, rfl, f3, f4, k8⟩; have S3 := (S2.below k8).below (box_below W8 (.cells #[.slice e1 e2 e3, .slice e4 e5 e6] 25)); have X8 := (X7.below k8).below (box_below W8 (.cells #[.slice e1 e2 e3, .slice e4 e5 e6] 25)); have Z8 := ar_new (c := e3) (d := e6) f3.rd f4.rd; obtain ⟨v0, v1, _, _⟩ := box2 X8.box; obtain ⟨v2, v3, _, _⟩ := box2 Z8.box)
                  | (go_at_call 13; (with_reducible refine (smT _ _ _ _ _ _ _ _ _ _ _ _ _ _ _ X8.s X8.a Z8.s Z8.a).mono ?_); rintro e W9 ⟨rfl, k9⟩; have S4 := S3.below k9; have X9 := X8.below k9))
                obtain ⟨LB9, LA9, LO9⟩ := LO S4.bel
                obtain ⟨gr', roff', ep', hgr', hcr'⟩ := LA9.a.cells (by omega)
                cases ep'
                have c9 := hcr' k1 HI.out.2
                rw [HI.out.1] at c9
                obtain ⟨y90, y91, _, _⟩ := box2 LO9.y.box
                obtain ⟨a90, a91, _, _⟩ := box2 LA9.box
                have l1 := (Array.getElem?_eq_some_iff.1 LO9.y.box).1
                have l2 := (Array.getElem?_eq_some_iff.1 LA9.box).1
                have al3 : ∀ V, Below W9.heap.size W9 V → V.cell? ⟨w.heap.size, 0, none⟩ = some (.slice so sn sc) ∧ V.cell? ⟨w.heap.size, 1, none⟩ = some (.slice ao an ac) ∧ V.cell? ⟨ga, 1, none⟩ = some (.slice (some ⟨gr, roff, none⟩) ma da) ∧ V.cell? ⟨gr, roff + k1, none⟩ = some (.int .i64 (i : Nat)) ∧ Below W9.heap.size W9 V := fun V hV => ⟨(hV.cell (p := ⟨w.heap.size, 0, none⟩) l1).trans y90, (hV.cell (p := ⟨w.heap.size, 1, none⟩) l1).trans y91, (hV.cell (p := ⟨ga, 1, none⟩) l2).trans a91, (hV.cell (p := ⟨gr, roff + k1, none⟩) hgr').trans c9, hV⟩
                clear hcr' S1 S2 S3 X7 X8 Z8 f1 f2 f3 f4 k7 k8 k9 SB z0 z1 v0 v1 v2 v3 LB LA LOz a0 a1
                go_cut [19, 20] from 142 to 152 (fun s19 s20 V => ∃ gu ou nu cu pu mu du, s19 = .pointer (some ⟨gu, 0, none⟩) ∧ Ar V gu ou nu cu pu mu du (xs i).1 (xs i).2 ∧ Below W9.heap.size W9 V)
                case first =>
                  go_region_held3 (fun V => V.cell? ⟨w.heap.size, 0, none⟩ = some (.slice so sn sc) ∧ V.cell? ⟨w.heap.size, 1, none⟩ = some (.slice ao an ac) ∧ V.cell? ⟨ga, 1, none⟩ = some (.slice (some ⟨gr, roff, none⟩) ma da) ∧ V.cell? ⟨gr, roff + k1, none⟩ = some (.int .i64 (i : Nat)) ∧ Below W9.heap.size W9 V) (first | exact al3 _ (by assumption) | exact al3 _ (Below.refl _ _).drew | exact al3 _ (box_below W9 _).drew | exact al3 _ (G1.alloc G1.size _) | exact al3 _ (below_set2 _ _ _ _ G1 (by first | exact Nat.le_refl _ | exact G1.size) (Nat.le_refl _)))
                    (first
                      | (go_at_call 12; (with_reducible refine (cIY (W9.alloc (.cells #[.slice none 0 0, .slice none 0 0] 25)).drew (LO9.y.below (box_below W9 (.cells #[.slice none 0 0, .slice none 0 0] 25)).drew) i hin).mono ?_); rintro e v1 ⟨ou, nu, cu, pu, mu, du, rfl, f1, f2, j1⟩; have G1 : Below W9.heap.size W9 v1 := (box_below W9 (.cells #[.slice none 0 0, .slice none 0 0] 25)).drew.trans (j1.mono (by simp)); have zz := (j1.block W9.heap.size (by simp)).trans (allocNew W9 (.cells #[.slice none 0 0, .slice none 0 0] 25)); obtain ⟨q0, q1, q2, q3⟩ := box2 zz)
                      | (go_at_call 12; (with_reducible refine (cIY W9.drew (LO9.y.below (Below.refl _ W9).drew) i hin).mono ?_); rintro e v1 ⟨ou, nu, cu, pu, mu, du, rfl, f1, f2, j1⟩; have G1 : Below W9.heap.size W9 v1 := (Below.refl _ W9).drew.trans j1))
                  all_goals
                    go_wp2
                    go_meet
                    case rel =>
                      have gs1 := G1.size
                      first
                        | exact ⟨_, _, _, _, _, _, _, rfl, ar_new f1.rd f2.rd, G1.trans ((box_below v1 _).mono gs1)⟩
                        | exact ⟨_, _, _, _, _, _, _, rfl, ar_set f1 f2 (by simp) zz, below_set2 _ _ _ _ G1 (Nat.le_refl _) (Nat.le_refl _)⟩
                case rest =>
                  obtain ⟨gu, ou, nu, cu, pu, mu, du, rfl, UU, KU⟩ := hcut
                  have S5 := S4.below KU
                  have X5 := X9.below KU
                  obtain ⟨LB5, LA5, LO5⟩ := LO S5.bel
                  obtain ⟨u0, u1, _, _⟩ := box2 UU.box
                  obtain ⟨x0, x1, _, _⟩ := box2 X5.box
                  have cCm := cmpA_any ou pu o1 o2 nu cu mu du n1 c1 n2 c2 _ _ _ _ wc UU.s UU.a X5.s X5.a
                  have bdc := cmpA_bd (xs i).1 (xs i).2 (xs j).1 (xs j).2
                  have hlx2 : cmpA (xs i).1 (xs i).2 (xs j).1 (xs j).2 < 0 ∨ (cmpA (xs i).1 (xs i).2 (xs j).1 (xs j).2 = 0 ∧ i < j) := by
                    have an := cmpA_anti (xs i).1 (xs i).2 (xs j).1 (xs j).2
                    unfold lx cUp at hlx
                    simp only [Int.toNat_natCast] at hlx
                    omega
                  generalize cmpA (xs i).1 (xs i).2 (xs j).1 (xs j).2 = cv at *
                  obtain ⟨nv, hnv⟩ : ∃ nv : Int, nv = cv := ⟨_, rfl⟩
                  subst hnv
                  clear al3 c9 hlx LB9 LA9 LO9 y90 y91 a90 a91 l1 l2
                  rcases hlx2 with hc | ⟨hc, hij⟩
                  · have z1 : decide (0 < nv) = false := by simp; omega
                    have z2 : (nv == 0) = false := by simp; omega
                    clear hc
                    go_wp2_with (first
                      | (go_at_call 14; (with_reducible refine cCm.mono ?_); rintro e WA ⟨rfl, kA⟩; have S6 := S5.below kA))
                    go_roundw
                    case rel => exact ⟨k + 1, _, by omega, by go_num, S6, HF1.out⟩
                    case measure => simp [intOf]; omega
                  · have z1 : decide (0 < nv) = false := by simp; omega
                    have z2 : (nv == 0) = true := by simp; omega
                    have z3 : decide ((j : Int) < (i : Int)) = false := by simp; omega
                    have z4 : decide (j < i) = false := by simp; omega
                    have z5 : ¬ j < i := by omega
                    clear hc hij
                    go_wp2_with (first
                      | (go_at_call 14; (with_reducible refine cCm.mono ?_); rintro e WA ⟨rfl, kA⟩; have S6 := S5.below kA; obtain ⟨LBa, LAa, LOa⟩ := LO S6.bel; obtain ⟨gr2, roff2, ep2, hgr2, hcr2⟩ := LAa.a.cells (by omega); cases ep2; have c92 := hcr2 k1 HI.out.2; rw [HI.out.1] at c92; obtain ⟨a92, a93, _, _⟩ := box2 LAa.box; clear hcr2))
                    go_roundw
                    case rel => exact ⟨k + 1, _, by omega, by go_num, S6, HF1.out⟩
                    case measure => simp [intOf]; omega
            · obtain rfl : k = ma := by omega
              have t1 : decide ((k : Int) < (k : Int)) = false := by simp
              go_wp2
              go_roundw
              case rel => exact ⟨.inr (.inl rfl), (LO SB.bel).2.2⟩
              case measure => simp [intOf]
    · as_aux_lemma =>
      have b2 : (1 : Int) < 2 := by omega
      obtain ⟨y0, y1, _, _⟩ := box2 O.y.box
      obtain ⟨u0, u1, _, _⟩ := box2 O.op
      have ly := (Array.getElem?_eq_some_iff.1 O.y.box).1
      have lp := (Array.getElem?_eq_some_iff.1 O.op).1
      have al1 : ∀ V, Below wr.heap.size wr V → V.cell? ⟨w.heap.size, 0, none⟩ = some (.slice so sn sc) ∧ V.cell? ⟨w.heap.size, 1, none⟩ = some (.slice ao an ac) ∧ V.cell? ⟨gp, 1, none⟩ = some (.int .i64 38) ∧ Below wr.heap.size wr V := fun V hV => ⟨(hV.cell (p := ⟨w.heap.size, 0, none⟩) ly).trans y0, (hV.cell (p := ⟨w.heap.size, 1, none⟩) ly).trans y1, (hV.cell (p := ⟨gp, 1, none⟩) lp).trans u1, hV⟩
      go_upto_region 11 with fail
      go_cut [8, 9] from 41 to 48 (fun s8 s9 V => ∃ ga oa na ca pa ma da ps, s8 = .pointer (some ⟨ga, 0, none⟩) ∧ s9 = .int .i64 0 ∧ Pls (cDn xs) n ps ∧ Ar V ga oa na ca pa ma da [(n : Int)] ps ∧ Oz w V gp so sn sc ao an ac sh at')
      case first =>
        go_region_held3 (fun V => V.cell? ⟨w.heap.size, 0, none⟩ = some (.slice so sn sc) ∧ V.cell? ⟨w.heap.size, 1, none⟩ = some (.slice ao an ac) ∧ V.cell? ⟨gp, 1, none⟩ = some (.int .i64 38) ∧ Below wr.heap.size wr V) (first | exact al1 _ (by assumption) | exact al1 _ (Below.refl _ _).drew | exact al1 _ (box_below wr _).drew | exact al1 _ (G1.alloc G1.size _) | exact al1 _ (below_set2 _ _ _ _ G1 (by first | exact Nat.le_refl _ | exact G1.size) (Nat.le_refl _)))
          (first
            | (go_at_call 9; (with_reducible refine (cGDn (wr.alloc (.cells #[.slice none 0 0, .slice none 0 0] 25)).drew (O.y.below (box_below wr (.cells #[.slice none 0 0, .slice none 0 0] 25)).drew)).mono ?_); rintro e v1 ⟨oa, na, ca, pa, ma, da, SA, ps, rfl, f1, f2, ⟨rfl, PS⟩, j1⟩; have G1 : Below wr.heap.size wr v1 := (box_below wr (.cells #[.slice none 0 0, .slice none 0 0] 25)).drew.trans (j1.mono (by simp)); have zz := (j1.block wr.heap.size (by simp)).trans (allocNew wr (.cells #[.slice none 0 0, .slice none 0 0] 25)); obtain ⟨q0, q1, q2, q3⟩ := box2 zz)
            | (go_at_call 9; (with_reducible refine (cGDn wr.drew (O.y.below (Below.refl _ wr).drew)).mono ?_); rintro e v1 ⟨oa, na, ca, pa, ma, da, SA, ps, rfl, f1, f2, ⟨rfl, PS⟩, j1⟩; have G1 : Below wr.heap.size wr v1 := (Below.refl _ wr).drew.trans j1))
        all_goals
          go_wp2
          go_meet
          case rel =>
            have gs1 := G1.size
            first
              | exact ⟨_, _, _, _, _, _, _, ps, rfl, rfl, PS, ar_new f1.rd f2.rd, (O.below G1 (Nat.le_refl _)).below (box_below v1 _) (Nat.le_refl _)⟩
              | exact ⟨_, _, _, _, _, _, _, ps, rfl, rfl, PS, ar_set f1 f2 (by simp) zz, O.below (below_set2 _ _ _ _ G1 (Nat.le_refl _) (Nat.le_refl _)) (Nat.le_refl _)⟩
      case rest =>
        obtain ⟨ga, oa, na, ca, pa, ma, da, ps, rfl, rfl, PS, AA, O2⟩ := hcut
        obtain ⟨y0', y1', _, _⟩ := box2 O2.y.box
        obtain ⟨u0', u1', _, _⟩ := box2 O2.op
        have ly' := (Array.getElem?_eq_some_iff.1 O2.y.box).1
        have lp' := (Array.getElem?_eq_some_iff.1 O2.op).1
        clear al1 O y0 y1 u0 u1 ly lp
        have al2 : ∀ V, Below wc.heap.size wc V → V.cell? ⟨w.heap.size, 0, none⟩ = some (.slice so sn sc) ∧ V.cell? ⟨w.heap.size, 1, none⟩ = some (.slice ao an ac) ∧ V.cell? ⟨gp, 1, none⟩ = some (.int .i64 38) ∧ Below wc.heap.size wc V := fun V hV => ⟨(hV.cell (p := ⟨w.heap.size, 0, none⟩) ly').trans y0', (hV.cell (p := ⟨w.heap.size, 1, none⟩) ly').trans y1', (hV.cell (p := ⟨gp, 1, none⟩) lp').trans u1', hV⟩
        go_upto_region 12 with fail
        go_cut [10, 11] from 49 to 57 (fun s10 s11 V => ∃ gb ob nb cb pb mb db, s10 = .pointer (some ⟨gb, 0, none⟩) ∧ s11 = .int .i64 0 ∧ Sl ob nb cb ∧ Sl pb mb db ∧ Ar V gb ob nb cb pb mb db ((n : Int) :: sh.drop 1) (chA xs ps n) ∧ Ar V ga oa na ca pa ma da [(n : Int)] ps ∧ Oz w V gp so sn sc ao an ac sh at')
        case first =>
          go_region_held3 (fun V => V.cell? ⟨w.heap.size, 0, none⟩ = some (.slice so sn sc) ∧ V.cell? ⟨w.heap.size, 1, none⟩ = some (.slice ao an ac) ∧ V.cell? ⟨gp, 1, none⟩ = some (.int .i64 38) ∧ Below wc.heap.size wc V) (first | exact al2 _ (by assumption) | exact al2 _ (Below.refl _ _).drew | exact al2 _ (box_below wc _).drew | exact al2 _ (G1.alloc G1.size _) | exact al2 _ (below_set2 _ _ _ _ G1 (by first | exact Nat.le_refl _ | exact G1.size) (Nat.le_refl _)))
            (first
              | (go_at_call 11; (with_reducible refine (cSDn (wc.alloc (.cells #[.slice none 0 0, .slice none 0 0] 25)).drew (O2.y.below (box_below wc (.cells #[.slice none 0 0, .slice none 0 0] 25)).drew)).mono ?_); rintro e v1 ⟨ob, nb, cb, pb, mb, db, SA, AB, rfl, f1, f2, ⟨qs, PQ, rfl, rfl⟩, j1⟩; have G1 : Below wc.heap.size wc v1 := (box_below wc (.cells #[.slice none 0 0, .slice none 0 0] 25)).drew.trans (j1.mono (by simp)); have zz := (j1.block wc.heap.size (by simp)).trans (allocNew wc (.cells #[.slice none 0 0, .slice none 0 0] 25)); obtain ⟨q0, q1, q2, q3⟩ := box2 zz)
              | (go_at_call 11; (with_reducible refine (cSDn wc.drew (O2.y.below (Below.refl _ wc).drew)).mono ?_); rintro e v1 ⟨ob, nb, cb, pb, mb, db, SA, AB, rfl, f1, f2, ⟨qs, PQ, rfl, rfl⟩, j1⟩; have G1 : Below wc.heap.size wc v1 := (Below.refl _ wc).drew.trans j1))
          all_goals
            go_wp2
            go_meet
            case rel =>
              have gs1 := G1.size
              have eq := PQ.uniq (cDn3 n xs) PS
              subst eq
              first
                | exact ⟨_, _, _, _, _, _, _, rfl, rfl, f1.sl, f2.sl, ar_new f1.rd f2.rd, (AA.low G1 (Nat.le_refl _)).below (box_below v1 _), (O2.below G1 (Nat.le_refl _)).below (box_below v1 _) (Nat.le_refl _)⟩
                | exact ⟨_, _, _, _, _, _, _, rfl, rfl, f1.sl, f2.sl, ar_set f1 f2 (by simp) zz, AA.low (below_set2 _ _ _ _ G1 (Nat.le_refl _) (Nat.le_refl _)) (Nat.le_refl _), O2.below (below_set2 _ _ _ _ G1 (Nat.le_refl _) (Nat.le_refl _)) (Nat.le_refl _)⟩
        case rest =>
          obtain ⟨gb, ob, nb, cb, pb, mb, db, rfl, rfl, hob, hpb, BB, A3, O3⟩ := hcut
          clear al2 O2 AA y0' y1' u0' u1' ly' lp'
          obtain ⟨hmb, hnb, hxb⟩ := HCH.out ps PS.len PS.inn
          have HPS : Hid (Pls (cDn xs) n ps) := PS
          have eT : itm ((n : Int) :: sh.drop 1) (chA xs ps n) = (n : Int) := by rw [show itm ((n : Int) :: sh.drop 1) (chA xs ps n) = tal ((n : Int) :: sh.drop 1) from if_pos hmb, ← itN_tal (mayA_zero hmb).1, hnb]
          have cTb := fun V (I : Ar V gb ob nb cb pb mb db ((n : Int) :: sh.drop 1) (chA xs ps n)) => items_any ob pb nb cb mb db _ _ V I.s I.a
          have cMb := fun V (I : Ar V gb ob nb cb pb mb db ((n : Int) :: sh.drop 1) (chA xs ps n)) => mayA_any ob pb nb cb mb db _ _ V I.s I.a
          rw [eT] at cTb
          rw [hmb] at cMb
          have cIB : ∀ V, Ar V gb ob nb cb pb mb db ((n : Int) :: sh.drop 1) (chA xs ps n) → ∀ (k j : Nat), k < n → nth ps k = (j : Int) → Calls Try.prog 12 #[.agg #[.slice ob nb cb, .slice pb mb db], .int .i64 (k : Nat)] V (fun e w' => ∃ o1 n1 c1 o2 n2 c2, e = .returned (.tuple #[.agg #[.slice o1 n1 c1, .slice o2 n2 c2], .int .i64 0]) ∧ Ft 3 w' V.heap.size o1 n1 c1 (xs j).1 ∧ Ft 2 w' V.heap.size o2 n2 c2 (xs j).2 ∧ Below V.heap.size V w') := fun V I k j hk hj => (item_any ob pb nb cb mb db ((n : Int) :: sh.drop 1) (chA xs ps n) (k : Int) V I.s hob I.a hpb).mono (by
            rintro e w' ⟨o1, n1, c1, o2, n2, c2, rfl, f1, f2, _, b⟩
            obtain ⟨q1, q2, q3⟩ := itX_itm hmb (k := k) (by rw [hnb]; exact hk)
            have q4 := hxb k hk
            rw [hj, Int.toNat_natCast] at q4
            rw [q4] at q2 q3
            rw [q2] at f1
            rw [q3] at f2
            exact ⟨o1, n1, c1, o2, n2, c2, by rw [q1], f1, f2, b⟩)
          have cIY : ∀ V, Ar V w.heap.size so sn sc ao an ac sh at' → ∀ (j : Nat), j < n → Calls Try.prog 12 #[.agg #[.slice so sn sc, .slice ao an ac], .int .i64 (j : Nat)] V (fun e w' => ∃ o1 n1 c1 o2 n2 c2, e = .returned (.tuple #[.agg #[.slice o1 n1 c1, .slice o2 n2 c2], .int .i64 0]) ∧ Ft 3 w' V.heap.size o1 n1 c1 (xs j).1 ∧ Ft 2 w' V.heap.size o2 n2 c2 (xs j).2 ∧ Below V.heap.size V w') := fun V I j hj => (item_any so ao sn sc an ac sh at' (j : Int) V I.s hs I.a gs).mono (by
            rintro e w' ⟨o1, n1, c1, o2, n2, c2, rfl, f1, f2, _, b⟩
            obtain ⟨q1, q2, q3⟩ := HIY.out j hj
            rw [q2] at f1
            rw [q3] at f2
            exact ⟨o1, n1, c1, o2, n2, c2, by rw [q1], f1, f2, b⟩)
          have na1 : na = 1 := A3.s.len.symm
          have ma1 : ma = n := A3.a.len.symm.trans PS.len
          subst na1 ma1
          obtain ⟨gq, qoff, eo, hgq, hcq⟩ := A3.s.cells (by omega)
          subst eo
          have cs0 : wc.cell? ⟨gq, qoff, none⟩ = some (.int .i64 (ma : Int)) := by have := hcq 0 (by omega); rwa [Nat.add_zero] at this
          obtain ⟨a0, a1, _, _⟩ := box2 A3.box
          obtain ⟨d0, d1, _, _⟩ := box2 BB.box
          have tn : ((ma : Int) != (ma : Int)) = false := by simp
          have hmk := fun (X : World) => run_make_row' (P := Try.prog) 34 4 (.bool false) 1 Try.underlying34 infoBQ rfl .i64 .i64 ma (by omega) (by omega) X
          clear hcq hmb hnb hxb eT PS
          go_wp2_with (first
            | (go_at_call 10; (with_reducible refine (cTb _ BB).mono ?_); rintro e W5 ⟨rfl, k5⟩; have B5 := BB.below k5; obtain ⟨d0, d1, _, _⟩ := box2 B5.box)
            | (go_at_call 8; (with_reducible refine (cMb _ B5).mono ?_); rintro e W6 ⟨rfl, k6⟩; have K6 := k5.trans (k6.mono k5.size); have B6 := BB.below K6; have A6 := A3.below K6; have O6 := O3.below K6 (Nat.le_refl _)))
          have S0 := Bs.made W6 ma
          have LO : ∀ {V : World}, Below W6.heap.size W6 V → Ar V gb ob nb cb pb mb db ((ma : Int) :: sh.drop 1) (chA xs ps ma) ∧ Ar V ga (some ⟨gq, qoff, none⟩) 1 ca pa ma da [(ma : Int)] ps ∧ Oz w V gp so sn sc ao an ac sh at' := fun hV => ⟨B6.low hV (Nat.le_refl _), A6.low hV (Nat.le_refl _), O6.below hV (Nat.le_refl _)⟩
          clear k5 k6 K6 B5 BB A3 O3 B6 A6 O6 cTb cMb a0 a1 d0 d1 cs0 hmk
          generalize W6.heap.size = gs' at *
          go_loopw [13] (fun i V => ∃ (k : Nat) (f : Nat → Bool), k ≤ ma ∧ i = .int .i64 (k : Nat) ∧ Bs gs' ma W6 V f ∧ ∀ j, f j = true ↔ ∃ t, t < k ∧ nth ps t = ((j : Nat) : Int)) (fun i _ => ma - (intOf i).toNat)
          case atStart => exact ⟨0, _, Nat.zero_le _, rfl, S0, fun j => ⟨fun h => by simp at h, fun ⟨t, ht, _⟩ => by omega⟩⟩
          case round =>
            obtain ⟨k, f, hk, rfl, SB, HF⟩ := hrel
            clear S0
            by_cases hlt : k < ma
            · have t1 : decide ((k : Int) < (ma : Int)) = true := by simp; omega
              have wk := wrY (z := (k : Int) + 1) (by omega) (by omega)
              have hpk := HPS.out.inn k (by rw [HPS.out.len]; exact hlt)
              obtain ⟨j, hj⟩ : ∃ j : Nat, nth ps k = (j : Int) := ⟨(nth ps k).toNat, by omega⟩
              rw [hj] at hpk
              obtain ⟨LB, LA, LOz⟩ := LO SB.bel
              obtain ⟨gr, roff, ep, hgr, hcr⟩ := LA.a.cells (by omega)
              subst ep
              have ck := hcr k hlt
              rw [hj] at ck
              have fj : f j = false := by
                cases hfj : f j with
                | false => rfl
                | true =>
                  obtain ⟨t, ht, et⟩ := (HF j).1 hfj
                  have s := HPS.out.so t k (Nat.zero_le _) ht hlt
                  rw [et, hj] at s
                  exact absurd (lx_irr (cDn3 ma xs) hpk s) id
              obtain ⟨sl1, sl2⟩ := SB.slot (j := j) (by omega)
              rw [fj] at sl1
              have S1 := SB.set (f' := fun i => f i || decide (i = j)) (j := j) (by omega) (by simp) (fun i hi => by simp [hi])
              have HF1 : Hid (∀ i, (f i || decide (i = j)) = true ↔ ∃ t, t < k + 1 ∧ nth ps t = ((i : Nat) : Int)) := fun i => by
                constructor
                · intro hh
                  rcases Bool.or_eq_true _ _ |>.mp hh with h1 | h1
                  · obtain ⟨t, ht, et⟩ := (HF i).1 h1
                    exact ⟨t, by omega, et⟩
                  · have : i = j := by simpa using h1
                    exact ⟨k, by omega, by rw [this]; exact hj⟩
                · rintro ⟨t, ht, et⟩
                  rcases Nat.lt_or_ge t k with x | x
                  · rw [(HF i).2 ⟨t, x, et⟩]; rfl
                  · obtain rfl : t = k := by omega
                    have : i = j := by omega
                    simp [this]
              have bk : (k : Int) < (ma : Int) := by omega
              have bj : (j : Int) < (ma : Int) := by omega
              have t2 : decide ((j : Int) < 0) = false := by simp
              have t3 : decide ((ma : Int) ≤ (j : Int)) = false := by simp; omega
              obtain ⟨a0, a1, _, _⟩ := box2 LA.box
              have hjn : j < ma := by omega
              have HJ : Hid (nth ps k = (j : Int)) := hj
              have y1 := box2 (LO S1.bel).2.2.y.box
              obtain ⟨y10, y11, _, _⟩ := y1
              clear hcr hj fj HF hpk
              by_cases hk0 : k = 0
              · have t4 : ((k : Int) == 0) = true := by simp; omega
                clear hk0
                go_wp2_with (first
                  | (go_at_call 12; (with_reducible refine (cIY _ (LO S1.bel).2.2.y j hjn).mono ?_); rintro e W7 ⟨o1, n1, c1, o2, n2, c2, rfl, f1, f2, k7⟩; have S2 := (S1.below k7).below (box_below W7 (.cells #[.slice o1 n1 c1, .slice o2 n2 c2] 25)); have X7 := ar_new (c := c1) (d := c2) f1.rd f2.rd; obtain ⟨z0, z1, _, _⟩ := box2 (LO S2.bel).1.box)
                  | (go_at_call 12; (with_reducible refine (cIB _ (LO S2.bel).1 k j hlt HJ.out).mono ?_); rintro e W8 ⟨e1, e2, e3, e4, e5, e6, rfl, f3, f4, k8⟩; have S3 := (S2.below k8).below (box_below W8 (.cells #[.slice e1 e2 e3, .slice e4 e5 e6] 25)); have X8 := (X7.below k8).below (box_below W8 (.cells #[.slice e1 e2 e3, .slice e4 e5 e6] 25)); have Z8 := ar_new (c := e3) (d := e6) f3.rd f4.rd; obtain ⟨v0, v1, _, _⟩ := box2 X8.box; obtain ⟨v2, v3, _, _⟩ := box2 Z8.box)
                  | (go_at_call 13; (with_reducible refine (smT _ _ _ _ _ _ _ _ _ _ _ _ _ _ _ X8.s X8.a Z8.s Z8.a).mono ?_); rintro e W9 ⟨rfl, k9⟩; have S4 := S3.below k9))
                go_roundw
                case rel => exact ⟨k + 1, _, by omega, by go_num, S4, HF1.out⟩
                case measure => simp [intOf]; omega
              · obtain ⟨k1, hk1⟩ : ∃ k1 : Nat, k1 + 1 = k := ⟨k - 1, by omega⟩
                have ws : IntKind.i64.wrap ((k : Int) - 1) = (k1 : Int) := (wrapIn _ (by omega)).trans (by omega)
                have t4 : ((k : Int) == 0) = false := by simp; omega
                have hp1 := HPS.out.inn k1 (by rw [HPS.out.len]; omega)
                obtain ⟨i, hi⟩ : ∃ i : Nat, nth ps k1 = (i : Int) := ⟨(nth ps k1).toNat, by omega⟩
                rw [hi] at hp1
                have hin : i < ma := by omega
                have bk1 : (k1 : Int) < (ma : Int) := by omega
                have hlx := HPS.out.so k1 k (Nat.zero_le _) (by omega) hlt
                rw [hi, HJ.out] at hlx
                have HI : Hid (nth ps k1 = (i : Int) ∧ k1 < ma) := ⟨hi, by omega⟩
                clear hk1 hi hp1 hk0
                go_upto_region 28 with (first
                  | (go_at_call 12; (with_reducible refine (cIY _ (LO S1.bel).2.2.y j hjn).mono ?_); rintro e W7 ⟨o1, n1, c1, o2, n2, c2, rfl, f1, f2, k7⟩; have S2 := (S1.below k7).below (box_below W7 (.cells #[.slice o1 n1 c1, .slice o2 n2 c2] 25)); have X7 := ar_new (c := c1) (d := c2) f1.rd f2.rd; obtain ⟨z0, z1, _, _⟩ := box2 (LO S2.bel).1.box)
                  | (go_at_call 12; (with_reducible refine (cIB _ (LO S2.bel).1 k j hlt HJ.out).mono ?_); rintro e W8 ⟨e1, e2, e3, e4, e5, e6, rfl, f3, f4, k8⟩; have S3 := (S2.below k8).below (box_below W8 (.cells #[.slice e1 e2 e3, .slice e4 e5 e6] 25)); have X8 := (X7.below k8).below (box_below W8 (.cells #[.slice e1 e2 e3, .slice e4 e5 e6] 25)); have Z8 := ar_new (c := e3) (d := e6) f3.rd f4.rd; obtain ⟨v0, v1, _, _⟩ := box2 X8.box; obtain ⟨v2, v3, _, _⟩ := box2 Z8.box)
                  | (go_at_call 13; (with_reducible refine (smT _ _ _ _ _ _ _ _ _ _ _ _ _ _ _ X8.s X8.a Z8.s Z8.a).mono ?_); rintro e W9 ⟨rfl, k9⟩; have S4 := S3.below k9; have X9 := X8.below k9))
                obtain ⟨LB9, LA9, LO9⟩ := LO S4.bel
                obtain ⟨gr', roff', ep', hgr', hcr'⟩ := LA9.a.cells (by omega)
                cases ep'
                have c9 := hcr' k1 HI.out.2
                rw [HI.out.1] at c9
                obtain ⟨y90, y91, _, _⟩ := box2 LO9.y.box
                obtain ⟨a90, a91, _, _⟩ := box2 LA9.box
                have l1 := (Array.getElem?_eq_some_iff.1 LO9.y.box).1
                have l2 := (Array.getElem?_eq_some_iff.1 LA9.box).1
                have al3 : ∀ V, Below W9.heap.size W9 V → V.cell? ⟨w.heap.size, 0, none⟩ = some (.slice so sn sc) ∧ V.cell? ⟨w.heap.size, 1, none⟩ = some (.slice ao an ac) ∧ V.cell? ⟨ga, 1, none⟩ = some (.slice (some ⟨gr, roff, none⟩) ma da) ∧ V.cell? ⟨gr, roff + k1, none⟩ = some (.int .i64 (i : Nat)) ∧ Below W9.heap.size W9 V := fun V hV => ⟨(hV.cell (p := ⟨w.heap.size, 0, none⟩) l1).trans y90, (hV.cell (p := ⟨w.heap.size, 1, none⟩) l1).trans y91, (hV.cell (p := ⟨ga, 1, none⟩) l2).trans a91, (hV.cell (p := ⟨gr, roff + k1, none⟩) hgr').trans c9, hV⟩
                clear hcr' S1 S2 S3 X7 X8 Z8 f1 f2 f3 f4 k7 k8 k9 SB z0 z1 v0 v1 v2 v3 LB LA LOz a0 a1
                go_cut [19, 20] from 142 to 152 (fun s19 s20 V => ∃ gu ou nu cu pu mu du, s19 = .pointer (some ⟨gu, 0, none⟩) ∧ Ar V gu ou nu cu pu mu du (xs i).1 (xs i).2 ∧ Below W9.heap.size W9 V)
                case first =>
                  go_region_held3 (fun V => V.cell? ⟨w.heap.size, 0, none⟩ = some (.slice so sn sc) ∧ V.cell? ⟨w.heap.size, 1, none⟩ = some (.slice ao an ac) ∧ V.cell? ⟨ga, 1, none⟩ = some (.slice (some ⟨gr, roff, none⟩) ma da) ∧ V.cell? ⟨gr, roff + k1, none⟩ = some (.int .i64 (i : Nat)) ∧ Below W9.heap.size W9 V) (first | exact al3 _ (by assumption) | exact al3 _ (Below.refl _ _).drew | exact al3 _ (box_below W9 _).drew | exact al3 _ (G1.alloc G1.size _) | exact al3 _ (below_set2 _ _ _ _ G1 (by first | exact Nat.le_refl _ | exact G1.size) (Nat.le_refl _)))
                    (first
                      | (go_at_call 12; (with_reducible refine (cIY (W9.alloc (.cells #[.slice none 0 0, .slice none 0 0] 25)).drew (LO9.y.below (box_below W9 (.cells #[.slice none 0 0, .slice none 0 0] 25)).drew) i hin).mono ?_); rintro e v1 ⟨ou, nu, cu, pu, mu, du, rfl, f1, f2, j1⟩; have G1 : Below W9.heap.size W9 v1 := (box_below W9 (.cells #[.slice none 0 0, .slice none 0 0] 25)).drew.trans (j1.mono (by simp)); have zz := (j1.block W9.heap.size (by simp)).trans (allocNew W9 (.cells #[.slice none 0 0, .slice none 0 0] 25)); obtain ⟨q0, q1, q2, q3⟩ := box2 zz)
                      | (go_at_call 12; (with_reducible refine (cIY W9.drew (LO9.y.below (Below.refl _ W9).drew) i hin).mono ?_); rintro e v1 ⟨ou, nu, cu, pu, mu, du, rfl, f1, f2, j1⟩; have G1 : Below W9.heap.size W9 v1 := (Below.refl _ W9).drew.trans j1))
                  all_goals
                    go_wp2
                    go_meet
                    case rel =>
                      have gs1 := G1.size
                      first
                        | exact ⟨_, _, _, _, _, _, _, rfl, ar_new f1.rd f2.rd, G1.trans ((box_below v1 _).mono gs1)⟩
                        | exact ⟨_, _, _, _, _, _, _, rfl, ar_set f1 f2 (by simp) zz, below_set2 _ _ _ _ G1 (Nat.le_refl _) (Nat.le_refl _)⟩
                case rest =>
                  obtain ⟨gu, ou, nu, cu, pu, mu, du, rfl, UU, KU⟩ := hcut
                  have S5 := S4.below KU
                  have X5 := X9.below KU
                  obtain ⟨LB5, LA5, LO5⟩ := LO S5.bel
                  obtain ⟨u0, u1, _, _⟩ := box2 UU.box
                  obtain ⟨x0, x1, _, _⟩ := box2 X5.box
                  have cCm := cmpA_any ou pu o1 o2 nu cu mu du n1 c1 n2 c2 _ _ _ _ wc UU.s UU.a X5.s X5.a
                  have bdc := cmpA_bd (xs i).1 (xs i).2 (xs j).1 (xs j).2
                  have hlx2 : 0 < cmpA (xs i).1 (xs i).2 (xs j).1 (xs j).2 ∨ (cmpA (xs i).1 (xs i).2 (xs j).1 (xs j).2 = 0 ∧ i < j) := by
                    have an := cmpA_anti (xs i).1 (xs i).2 (xs j).1 (xs j).2
                    unfold lx cDn cUp at hlx
                    simp only [Int.toNat_natCast] at hlx
                    omega
                  generalize cmpA (xs i).1 (xs i).2 (xs j).1 (xs j).2 = cv at *
                  obtain ⟨nv, hnv⟩ : ∃ nv : Int, nv = -cv := ⟨_, rfl⟩
                  have wn : IntKind.i64.wrap (-cv) = nv := (wrapIn _ (by omega)).trans hnv.symm
                  clear al3 c9 hlx LB9 LA9 LO9 y90 y91 a90 a91 l1 l2
                  rcases hlx2 with hc | ⟨hc, hij⟩
                  · have z1 : decide (0 < nv) = false := by simp; omega
                    have z2 : (nv == 0) = false := by simp; omega
                    clear hc hnv
                    go_wp2_with (first
                      | (go_at_call 14; (with_reducible refine cCm.mono ?_); rintro e WA ⟨rfl, kA⟩; have S6 := S5.below kA))
                    go_roundw
                    case rel => exact ⟨k + 1, _, by omega, by go_num, S6, HF1.out⟩
                    case measure => simp [intOf]; omega
                  · have z1 : decide (0 < nv) = false := by simp; omega
                    have z2 : (nv == 0) = true := by simp; omega
                    have z3 : decide ((j : Int) < (i : Int)) = false := by simp; omega
                    have z4 : decide (j < i) = false := by simp; omega
                    have z5 : ¬ j < i := by omega
                    clear hc hij hnv
                    go_wp2_with (first
                      | (go_at_call 14; (with_reducible refine cCm.mono ?_); rintro e WA ⟨rfl, kA⟩; have S6 := S5.below kA; obtain ⟨LBa, LAa, LOa⟩ := LO S6.bel; obtain ⟨gr2, roff2, ep2, hgr2, hcr2⟩ := LAa.a.cells (by omega); cases ep2; have c92 := hcr2 k1 HI.out.2; rw [HI.out.1] at c92; obtain ⟨a92, a93, _, _⟩ := box2 LAa.box; clear hcr2))
                    go_roundw
                    case rel => exact ⟨k + 1, _, by omega, by go_num, S6, HF1.out⟩
                    case measure => simp [intOf]; omega
            · obtain rfl : k = ma := by omega
              have t1 : decide ((k : Int) < (k : Int)) = false := by simp
              go_wp2
              go_roundw
              case rel => exact ⟨.inr (.inr rfl), (LO SB.bel).2.2⟩
              case measure => simp [intOf]
    · go_wp2
      go_ret
      exact ⟨rfl, O.bel⟩
end Go.Proofs.Ytlncjmeabonpfaa
