
/- MoldJoins: the law itself. -/

import Derived.Test.YtjpdjnkmipfmbaaGreatJJb
import Derived.Test.YtjpdjnkmipfmbaaGreatRB
import Derived.Deep.Cut



namespace Go.Proofs.YtjpdjnkmipfmbaaGreat

open Go.RowKit

set_option linter.unusedVariables false

structure Bj (V : World) (b : Nat) (o1 : Option Addr) (n1 c1 : Nat) (o2 : Option Addr) (n2 c2 : Nat) (S A : List Int) : Prop where
  box : V.heap[b]? = some (.cells #[.slice o1 n1 c1, .slice o2 n2 c2] 25 (0, 0))
  s : Rd V o1 n1 S
  a : Rd V o2 n2 A
theorem Bj.below {V V' : World} {b : Nat} {o1 : Option Addr} {n1 c1 : Nat} {o2 : Option Addr} {n2 c2 : Nat} {S A : List Int} (h : Bj V b o1 n1 c1 o2 n2 c2 S A) (k : Below V.heap.size V V') : Bj V' b o1 n1 c1 o2 n2 c2 S A :=
  ⟨(k.block _ (Array.getElem?_eq_some_iff.1 h.box).1).trans h.box, h.s.below k (Nat.le_refl _), h.a.below k (Nat.le_refl _)⟩
theorem bj_new {V : World} {o1 : Option Addr} {n1 c1 : Nat} {o2 : Option Addr} {n2 c2 : Nat} {S A : List Int} (h1 : Rd V o1 n1 S) (h2 : Rd V o2 n2 A) : Bj (V.alloc (.cells #[.slice o1 n1 c1, .slice o2 n2 c2] 25)) V.heap.size o1 n1 c1 o2 n2 c2 S A :=
  ⟨allocNew V _, h1.below (box_below V _) (Nat.le_refl _), h2.below (box_below V _) (Nat.le_refl _)⟩
theorem Bj.c {V : World} {b : Nat} {o1 : Option Addr} {n1 c1 : Nat} {o2 : Option Addr} {n2 c2 : Nat} {S A : List Int} (h : Bj V b o1 n1 c1 o2 n2 c2 S A) : V.cell? ⟨b, 0, none⟩ = some (.slice o1 n1 c1) ∧ V.cell? ⟨b, 1, none⟩ = some (.slice o2 n2 c2) := ⟨(box2 h.box).1, (box2 h.box).2.1⟩
theorem wpList_joinG {s e : TypeId} (ty : Ty s e) {w : World} {ops : Array Oper} {rest : List Oper} {o : Oper} {a : Act} {Q : Exit → Act → World → Prop} (hgd : Region.wanted o (yielded ops a.tmps) = true) (p x : Operand)
    (ho : o.op = .call { callee := .builtin .append, args := #[p, x], argTypes := #[s, s] }) (B : Nat) (ao bo : Option Addr) (n cap m cap' : Nat) (zs ys : List Int)
    (hs : a.eval p = .slice ao n cap) (hx : a.eval x = .slice bo m cap') (h : Ft e w B ao n cap zs) (g : Rd w bo m ys) (gs : Sl bo m cap') (hr : (n + m) * 8 ≤ 140737488351232) (hB : B ≤ w.heap.size)
    (hK : ∀ co c w', Ft e w' B co (n + m) c (zs ++ ys) → Below B w w' → wpList Tryz.prog ops Q rest (a.put o.dst (.slice co (n + m) c)) w') : wpList Tryz.prog ops Q (o :: rest) a w := by
  obtain ⟨co, c, w', hrun, hf, hg⟩ := run_joinT ty o.type B ao bo n cap m cap' zs ys h g gs hr hB
  unfold wpList
  rw [if_pos hgd]
  left
  unfold Oper.wp
  simp [execOp, ho, resolve, invoke, builtin, hs, hx, hrun, Result.andThen]
  exact hK _ _ _ hf ((Below.refl _ _).grown hg hB (fun k e => (h.own.lt k e).1))
theorem drewN_belowJ (V : World) : ∀ q, Below V.heap.size V (V.drewN q)
  | 0 => Below.refl _ _
  | q + 1 => (drewN_belowJ V q).drew
theorem mayF_nn {l : List Int} (h : ∀ k, k < l.length → 0 ≤ nth l k) : mayF l = 0 ∨ mayF l = 17 := by
  rcases mayF_cases l with e | e | e
  · exact .inl e
  · unfold mayF at e
    rw [any_no h] at e
    split at e
    · rename_i q; cases q
    · split at e
      · cases e
      · split at e
        · cases e
        · cases e
  · exact .inr e
/-- x and y in their boxes. -/
structure Xy2 (w V : World) (xso xo so ao : Option Addr) (xsn xsc xn xc sn sc an ac : Nat) (sx ax sy ay : List Int) : Prop where
  x : Bj V w.heap.size xso xsn xsc xo xn xc sx ax
  y : Bj V (w.heap.size + 1) so sn sc ao an ac sy ay
  bel : Below w.heap.size w V
theorem Xy2.below {w V V' : World} {xso xo so ao : Option Addr} {xsn xsc xn xc sn sc an ac : Nat} {sx ax sy ay : List Int} (h : Xy2 w V xso xo so ao xsn xsc xn xc sn sc an ac sx ax sy ay) (k : Below V.heap.size V V') : Xy2 w V' xso xo so ao xsn xsc xn xc sn sc an ac sx ax sy ay := ⟨h.x.below k, h.y.below k, h.bel.trans (k.mono h.bel.size)⟩
theorem xy2_start (xso xo so ao : Option Addr) (xsn xsc xn xc sn sc an ac : Nat) (sx ax sy ay : List Int) (w : World) (h1 : Rd w xso xsn sx) (s1 : Sl xso xsn xsc) (h2 : Rd w xo xn ax) (s2 : Sl xo xn xc) (h3 : Rd w so sn sy) (s3 : Sl so sn sc) (h4 : Rd w ao an ay) (s4 : Sl ao an ac) : Xy2 w ((w.alloc (.cells #[.slice xso xsn xsc, .slice xo xn xc] 25)).alloc (.cells #[.slice so sn sc, .slice ao an ac] 25)) xso xo so ao xsn xsc xn xc sn sc an ac sx ax sy ay := by
  have k1 := box_below w (.cells #[.slice xso xsn xsc, .slice xo xn xc] 25)
  have k2 := box_below (w.alloc (.cells #[.slice xso xsn xsc, .slice xo xn xc] 25)) (.cells #[.slice so sn sc, .slice ao an ac] 25)
  have b2 := bj_new (V := w.alloc (.cells #[.slice xso xsn xsc, .slice xo xn xc] 25)) (c1 := sc) (c2 := ac) (h3.below k1 (Nat.le_refl _)) (h4.below k1 (Nat.le_refl _))
  rw [World.size_alloc] at b2
  exact ⟨(bj_new h1 h2).below k2, b2, k1.trans (k2.mono k1.size)⟩

set_option maxHeartbeats 8000000 in
set_option maxRecDepth 20000 in
theorem joins_nx (xso xo so ao : Option Addr) (xsn xsc xn xc sn sc an ac : Nat) (sx ax sy ay : List Int) (w : World) (h1 : Rd w xso xsn sx) (s1 : Sl xso xsn xsc) (h2 : Rd w xo xn ax) (s2 : Sl xo xn xc) (h3 : Rd w so sn sy) (s3 : Sl so sn sc) (h4 : Rd w ao an ay) (s4 : Sl ao an ac) (mx : mayA sx ax ≠ 0) :
    Calls Tryz.prog 4 #[.agg #[.slice xso xsn xsc, .slice xo xn xc], .agg #[.slice so sn sc, .slice ao an ac]] w fun e w' => e = .returned (.bool true) ∧ Below w.heap.size w w' := by
  have X0 := xy2_start xso xo so ao xsn xsc xn xc sn sc an ac sx ax sy ay w h1 s1 h2 s2 h3 s3 h4 s4
  have cG := begun6_any ((w.alloc (.cells #[.slice xso xsn xsc, .slice xo xn xc] 25)).alloc (.cells #[.slice so sn sc, .slice ao an ac] 25))
  go_enter Tryz.func4, Tryz.ntmps4
  go_wp2_with (first
    | (go_at_call 5; (with_reducible refine cG.mono ?_); rintro e w1 ⟨rfl, k1⟩; have X1 := X0.below k1; obtain ⟨a0, a1⟩ := X1.x.c; have cM1 := may6_no xso xo xsn xsc xn xc sx ax w1 X1.x.s X1.x.a mx)
    | (go_at_call 8; (with_reducible refine cM1.mono ?_); rintro e w2 ⟨rfl, k2⟩; have X2 := X1.below k2; obtain ⟨b0, b1⟩ := X2.y.c))
  go_ret
  exact ⟨rfl, X2.bel⟩

set_option maxHeartbeats 8000000 in
set_option maxRecDepth 20000 in
theorem joins_ny (xso xo so ao : Option Addr) (xsn xsc xn xc sn sc an ac : Nat) (sx ax sy ay : List Int) (w : World) (h1 : Rd w xso xsn sx) (s1 : Sl xso xsn xsc) (h2 : Rd w xo xn ax) (s2 : Sl xo xn xc) (h3 : Rd w so sn sy) (s3 : Sl so sn sc) (h4 : Rd w ao an ay) (s4 : Sl ao an ac) (mx : mayA sx ax = 0) (my : mayA sy ay ≠ 0) :
    Calls Tryz.prog 4 #[.agg #[.slice xso xsn xsc, .slice xo xn xc], .agg #[.slice so sn sc, .slice ao an ac]] w fun e w' => e = .returned (.bool true) ∧ Below w.heap.size w w' := by
  have X0 := xy2_start xso xo so ao xsn xsc xn xc sn sc an ac sx ax sy ay w h1 s1 h2 s2 h3 s3 h4 s4
  have cG := begun6_any ((w.alloc (.cells #[.slice xso xsn xsc, .slice xo xn xc] 25)).alloc (.cells #[.slice so sn sc, .slice ao an ac] 25))
  go_enter Tryz.func4, Tryz.ntmps4
  go_wp2_with (first
    | (go_at_call 5; (with_reducible refine cG.mono ?_); rintro e w1 ⟨rfl, k1⟩; have X1 := X0.below k1; obtain ⟨a0, a1⟩ := X1.x.c; have cM1 := may6_yes xso xo xsn xsc xn xc sx ax w1 X1.x.s X1.x.a mx)
    | (go_at_call 8; (with_reducible refine cM1.mono ?_); rintro e w2 ⟨rfl, k2⟩; have X2 := X1.below k2; obtain ⟨b0, b1⟩ := X2.y.c)
    | (go_at_call 8; (with_reducible refine (may6_no so ao sn sc an ac sy ay w2 X2.y.s X2.y.a my).mono ?_); rintro e w3 ⟨rfl, k3⟩; have X3 := X2.below k3; obtain ⟨c0, c1⟩ := X3.x.c; obtain ⟨d0, d1⟩ := X3.y.c; have cQ := eqInts_any xso so xsn sn xsc sc sx sy w3 X3.x.s X3.y.s))
  go_ret
  exact ⟨rfl, X3.bel⟩

set_option maxHeartbeats 8000000 in
set_option maxRecDepth 20000 in
theorem joins_sc (xso xo so ao : Option Addr) (xsn xsc xn xc sn sc an ac : Nat) (sx ax sy ay : List Int) (w : World) (h1 : Rd w xso xsn sx) (s1 : Sl xso xsn xsc) (h2 : Rd w xo xn ax) (s2 : Sl xo xn xc) (h3 : Rd w so sn sy) (s3 : Sl so sn sc) (h4 : Rd w ao an ay) (s4 : Sl ao an ac) (mx : mayA sx ax = 0) (my : mayA sy ay = 0) (h0 : xsn = 0) :
    Calls Tryz.prog 4 #[.agg #[.slice xso xsn xsc, .slice xo xn xc], .agg #[.slice so sn sc, .slice ao an ac]] w fun e w' => e = .returned (.bool true) ∧ Below w.heap.size w w' := by
  have X0 := xy2_start xso xo so ao xsn xsc xn xc sn sc an ac sx ax sy ay w h1 s1 h2 s2 h3 s3 h4 s4
  have cG := begun6_any ((w.alloc (.cells #[.slice xso xsn xsc, .slice xo xn xc] 25)).alloc (.cells #[.slice so sn sc, .slice ao an ac] 25))
  subst h0
  go_enter Tryz.func4, Tryz.ntmps4
  go_wp2_with (first
    | (go_at_call 5; (with_reducible refine cG.mono ?_); rintro e w1 ⟨rfl, k1⟩; have X1 := X0.below k1; obtain ⟨a0, a1⟩ := X1.x.c; have cM1 := may6_yes xso xo 0 xsc xn xc sx ax w1 X1.x.s X1.x.a mx)
    | (go_at_call 8; (with_reducible refine cM1.mono ?_); rintro e w2 ⟨rfl, k2⟩; have X2 := X1.below k2; obtain ⟨b0, b1⟩ := X2.y.c)
    | (go_at_call 8; (with_reducible refine (may6_yes so ao sn sc an ac sy ay w2 X2.y.s X2.y.a my).mono ?_); rintro e w3 ⟨rfl, k3⟩; have X3 := X2.below k3; obtain ⟨c0, c1⟩ := X3.x.c; obtain ⟨d0, d1⟩ := X3.y.c; have cQ := eqInts_any xso so 0 sn xsc sc sx sy w3 X3.x.s X3.y.s))
  go_ret
  exact ⟨rfl, X3.bel⟩

set_option maxHeartbeats 8000000 in
set_option maxRecDepth 20000 in
theorem joins_ne (xso xo so ao : Option Addr) (xsn xsc xn xc sn sc an ac : Nat) (sx ax sy ay : List Int) (w : World) (h1 : Rd w xso xsn sx) (s1 : Sl xso xsn xsc) (h2 : Rd w xo xn ax) (s2 : Sl xo xn xc) (h3 : Rd w so sn sy) (s3 : Sl so sn sc) (h4 : Rd w ao an ay) (s4 : Sl ao an ac) (mx : mayA sx ax = 0) (my : mayA sy ay = 0) (h0 : 0 < xsn) (hne : eqB sx sy = false) :
    Calls Tryz.prog 4 #[.agg #[.slice xso xsn xsc, .slice xo xn xc], .agg #[.slice so sn sc, .slice ao an ac]] w fun e w' => e = .returned (.bool true) ∧ Below w.heap.size w w' := by
  have X0 := xy2_start xso xo so ao xsn xsc xn xc sn sc an ac sx ax sy ay w h1 s1 h2 s2 h3 s3 h4 s4
  have cG := begun6_any ((w.alloc (.cells #[.slice xso xsn xsc, .slice xo xn xc] 25)).alloc (.cells #[.slice so sn sc, .slice ao an ac] 25))
  have t0 : ((xsn : Int) == 0) = false := by simp; omega
  have t0b : (xsn == 0) = false := by simp; omega
  have t0c : ¬ xsn = 0 := by omega
  have HE : Hid (eqB sx sy = false) := hne
  clear hne
  go_enter Tryz.func4, Tryz.ntmps4
  go_wp2_with (first
    | (go_at_call 5; (with_reducible refine cG.mono ?_); rintro e w1 ⟨rfl, k1⟩; have X1 := X0.below k1; obtain ⟨a0, a1⟩ := X1.x.c; have cM1 := may6_yes xso xo xsn xsc xn xc sx ax w1 X1.x.s X1.x.a mx)
    | (go_at_call 8; (with_reducible refine cM1.mono ?_); rintro e w2 ⟨rfl, k2⟩; have X2 := X1.below k2; obtain ⟨b0, b1⟩ := X2.y.c)
    | (go_at_call 8; (with_reducible refine (may6_yes so ao sn sc an ac sy ay w2 X2.y.s X2.y.a my).mono ?_); rintro e w3 ⟨rfl, k3⟩; have X3 := X2.below k3; obtain ⟨c0, c1⟩ := X3.x.c; obtain ⟨d0, d1⟩ := X3.y.c; have cQ := eqInts_any xso so xsn sn xsc sc sx sy w3 X3.x.s X3.y.s; rw [HE.out] at cQ)
    | (go_at_call 9; (with_reducible refine cQ.mono ?_); rintro e w4 ⟨rfl, q4, hw4⟩; have k4 : Below w3.heap.size w3 w4 := (by rw [hw4]; exact drewN_belowJ w3 q4); have X4 := X3.below k4; clear hw4))
  go_ret
  exact ⟨rfl, X4.bel⟩

set_option maxHeartbeats 16000000 in
set_option maxRecDepth 20000 in
theorem joins_over (xso xo so ao : Option Addr) (xsn xsc xn xc sn sc an ac : Nat) (z : Int) (r ax ay : List Int) (w : World) (h1 : Rd w xso xsn (z :: r)) (s1 : Sl xso xsn xsc) (h2 : Rd w xo xn ax) (s2 : Sl xo xn xc) (h3 : Rd w so sn (z :: r)) (s3 : Sl so sn sc) (h4 : Rd w ao an ay) (s4 : Sl ao an ac) (mx : mayA (z :: r) ax = 0) (my : mayA (z :: r) ay = 0) (hF : mayF ((z + z) :: r) = 17) :
    Calls Tryz.prog 4 #[.agg #[.slice xso xsn xsc, .slice xo xn xc], .agg #[.slice so sn sc, .slice ao an ac]] w fun e w' => e = .returned (.bool true) ∧ Below w.heap.size w w' := by
  have X0 := xy2_start xso xo so ao xsn xsc xn xc sn sc an ac (z :: r) ax (z :: r) ay w h1 s1 h2 s2 h3 s3 h4 s4
  have cG := begun6_any ((w.alloc (.cells #[.slice xso xsn xsc, .slice xo xn xc] 25)).alloc (.cells #[.slice so sn sc, .slice ao an ac] 25))
  have e1 : xsn = sn := by rw [← h1.len, h3.len]
  have hl1 : (z :: r).length = xsn := h1.len
  have h0 : 0 < xsn := by rw [← hl1]; simp
  have t0 : ((xsn : Int) == 0) = false := by simp; omega
  have t0b : (xsn == 0) = false := by simp; omega
  have t0c : ¬ xsn = 0 := by omega
  have b00 : (0 : Int) < (xsn : Int) := by omega
  have hz4 : 0 ≤ z ∧ z ≤ 4096 := nth_small (mayA_zero mx).1 (k := 0) (by simp)
  have hsn0 : 0 < sn := by omega
  have x8 : xsn ≤ 8 := by rw [← hl1]; exact (mayF_zero (mayA_zero mx).1).2.1
  have HD : Hid ((nth (z :: r) 0 + nth (z :: r) 0) :: (z :: r).drop 1 = (z + z) :: r) := rfl
  have c24 : ∀ V, Bj V w.heap.size xso xsn xsc xo xn xc (z :: r) ax → Bj V (w.heap.size + 1) so sn sc ao an ac (z :: r) ay → Calls Tryz.prog 6 #[.int .i64 24, .agg #[.slice xso xsn xsc, .slice xo xn xc], .agg #[.slice so sn sc, .slice ao an ac]] V fun e w' => Ans V V.heap.size (filS ((z + z) :: r)) (jnA ((z + z) :: r) (ax ++ ay)) (mayF ((z + z) :: r)) e w' := fun V B1 B2 =>
    dyad_ravel xso xo so ao xsn xsc xn xc sn sc an ac (z :: r) ax (z :: r) ay _ _ _ V B1.s B1.a B2.s B2.a mx my (fun U k => join_same xso xo so ao xsn xsc xn xc sn sc an ac (z :: r) ax (z :: r) ay U (B1.s.below k (Nat.le_refl _)) s1 (B1.a.below k (Nat.le_refl _)) (B2.s.below k (Nat.le_refl _)) s3 (B2.a.below k (Nat.le_refl _)) mx my hsn0 e1 rfl)
  have c26 : ∀ V, Bj V w.heap.size xso xsn xsc xo xn xc (z :: r) ax → Bj V (w.heap.size + 1) so sn sc ao an ac (z :: r) ay → Calls Tryz.prog 6 #[.int .i64 26, .agg #[.slice xso xsn xsc, .slice xo xn xc], .agg #[.slice so sn sc, .slice ao an ac]] V fun e w' => Ans V V.heap.size (if mayF (2 :: z :: r) = 0 then 2 :: z :: r else []) (if mayF (2 :: z :: r) = 0 then ax ++ ay else []) (if mayF (2 :: z :: r) = 0 then 0 else 17) e w' := fun V B1 B2 =>
    dyad26_any xso xo so ao xsn xsc xn xc sn sc an ac (z :: r) ax ay V B1.s s1 B1.a s2 B2.s s3 B2.a s4 mx my h0 hsn0
  clear e1 hl1
  rw [hF] at c24
  have HF : Hid (mayF ((z + z) :: r) = 17) := hF
  have wz : IntKind.i64.wrap (2 * z) = 2 * z := by rw [IntKind.wrap_i64]; omega
  clear c26 hF
  go_enter Tryz.func4, Tryz.ntmps4
  go_upto_region 8 with (first
    | (go_at_call 5; (with_reducible refine cG.mono ?_); rintro e w1 ⟨rfl, k1⟩; have X1 := X0.below k1; obtain ⟨a0, a1⟩ := X1.x.c; have cM1 := may6_yes xso xo xsn xsc xn xc (z :: r) ax w1 X1.x.s X1.x.a mx)
    | (go_at_call 8; (with_reducible refine cM1.mono ?_); rintro e w2 ⟨rfl, k2⟩; have X2 := X1.below k2; obtain ⟨b0, b1⟩ := X2.y.c)
    | (go_at_call 8; (with_reducible refine (may6_yes so ao sn sc an ac (z :: r) ay w2 X2.y.s X2.y.a my).mono ?_); rintro e w3 ⟨rfl, k3⟩; have X3 := X2.below k3; obtain ⟨c0, c1⟩ := X3.x.c; obtain ⟨d0, d1⟩ := X3.y.c; have cQ := eqInts_any xso so xsn sn xsc sc (z :: r) (z :: r) w3 X3.x.s X3.y.s; rw [eqB_refl] at cQ)
    | (go_at_call 9; (with_reducible refine cQ.mono ?_); rintro e w4 ⟨rfl, q4, hw4⟩; have k4 : Below w3.heap.size w3 w4 := (by rw [hw4]; exact drewN_belowJ w3 q4); have X4 := X3.below k4; clear hw4; obtain ⟨e0', e1'⟩ := X4.x.c; obtain ⟨f0', f1'⟩ := X4.y.c; obtain ⟨bS, offS, rfl, hbS, hcS⟩ := X4.x.s.cells h0; have cS0 : w4.cell? ⟨bS, offS, none⟩ = some (.int .i64 z) := (by have := hcS 0 h0; rw [Nat.add_zero] at this; exact this); have c24' := c24 w4 X4.x X4.y)
    | (go_at_call 6; (with_reducible refine c24'.mono ?_); rintro e w5 ⟨pA, nA, cA, qA, mA, dA, rfl, f5, g5, k5⟩; have kb5 := box_below w5 (.cells #[.slice pA nA cA, .slice qA mA dA] 25); have k6 := k5.trans (kb5.mono k5.size); have X6 := X4.below k6; have BA6 := bj_new (c1 := cA) (c2 := dA) f5.rd g5.rd; have LA1 := f5.sl; have LA2 := g5.sl; obtain ⟨g0', g1'⟩ := X6.x.c; obtain ⟨i0', i1'⟩ := X6.y.c))
  have RS := X6.x.s
  have t17 : ((17 : Int) != 0) = true := rfl
  go_upto_region 9 with (at_builtin; refine wpList_joinT tyI rfl _ _ rfl (w5.alloc (.cells #[.slice pA nA cA, .slice qA mA dA] 25)).heap.size none (some ⟨bS, offS, none⟩) 0 0 xsn xsc [] (z :: r) rfl rfl (Ft.nil _ _ _) RS s1 (by have := RS.room; omega) (Nat.le_refl _) ?_; intro co3 c3 w7 f7 b7; rw [Nat.zero_add, List.nil_append] at f7)
  have X7 := X6.below b7
  obtain ⟨g, rfl, hg1, hg2⟩ := f7.some h0
  obtain ⟨u, cu, zu⟩ := f7.slot (k := 0) h0
  have c00 : w7.cell? ⟨g, 0, none⟩ = some (.int .i64 z) := by
    obtain ⟨b', off', e', _, hc'⟩ := f7.rd.cells h0
    cases e'
    exact hc' 0 h0
  have f8 := f7.setT 0 h0 (2 * z) (by omega) (by omega)
  rw [show (z :: r).set 0 (2 * z) = (z + z) :: r by simp; omega] at f8
  have cF := may_any _ _ c3 _ _ f8.rd
  rw [HF.out] at cF
  have X8 : Below w.heap.size w (w7.setCell ⟨g, 0, none⟩ (.int .i64 (2 * z))) := X7.bel.setCell (p := ⟨g, 0, none⟩) (Nat.le_trans X6.bel.size hg1) _
  clear f7 cu
  go_wp2_with (go_at_call 11; (with_reducible refine cF.mono ?_); rintro e w9 ⟨rfl, hw⟩; rw [hw]; clear hw w9)
  go_ret
  exact ⟨rfl, X8⟩

set_option maxHeartbeats 16000000 in
set_option maxRecDepth 20000 in
theorem joins_two (xso xo so ao : Option Addr) (xsn xsc xn xc sn sc an ac : Nat) (z : Int) (r ax ay : List Int) (w : World) (h1 : Rd w xso xsn (z :: r)) (s1 : Sl xso xsn xsc) (h2 : Rd w xo xn ax) (s2 : Sl xo xn xc) (h3 : Rd w so sn (z :: r)) (s3 : Sl so sn sc) (h4 : Rd w ao an ay) (s4 : Sl ao an ac) (mx : mayA (z :: r) ax = 0) (my : mayA (z :: r) ay = 0) (hF : mayF ((z + z) :: r) = 0) (hG : mayF (2 :: z :: r) = 17) :
    Calls Tryz.prog 4 #[.agg #[.slice xso xsn xsc, .slice xo xn xc], .agg #[.slice so sn sc, .slice ao an ac]] w fun e w' => e = .returned (.bool true) ∧ Below w.heap.size w w' := by
  have X0 := xy2_start xso xo so ao xsn xsc xn xc sn sc an ac (z :: r) ax (z :: r) ay w h1 s1 h2 s2 h3 s3 h4 s4
  have cG := begun6_any ((w.alloc (.cells #[.slice xso xsn xsc, .slice xo xn xc] 25)).alloc (.cells #[.slice so sn sc, .slice ao an ac] 25))
  have e1 : xsn = sn := by rw [← h1.len, h3.len]
  have hl1 : (z :: r).length = xsn := h1.len
  have h0 : 0 < xsn := by rw [← hl1]; simp
  have t0 : ((xsn : Int) == 0) = false := by simp; omega
  have t0b : (xsn == 0) = false := by simp; omega
  have t0c : ¬ xsn = 0 := by omega
  have b00 : (0 : Int) < (xsn : Int) := by omega
  have hz4 : 0 ≤ z ∧ z ≤ 4096 := nth_small (mayA_zero mx).1 (k := 0) (by simp)
  have hsn0 : 0 < sn := by omega
  have x8 : xsn ≤ 8 := by rw [← hl1]; exact (mayF_zero (mayA_zero mx).1).2.1
  have HD : Hid ((nth (z :: r) 0 + nth (z :: r) 0) :: (z :: r).drop 1 = (z + z) :: r) := rfl
  have c24 : ∀ V, Bj V w.heap.size xso xsn xsc xo xn xc (z :: r) ax → Bj V (w.heap.size + 1) so sn sc ao an ac (z :: r) ay → Calls Tryz.prog 6 #[.int .i64 24, .agg #[.slice xso xsn xsc, .slice xo xn xc], .agg #[.slice so sn sc, .slice ao an ac]] V fun e w' => Ans V V.heap.size (filS ((z + z) :: r)) (jnA ((z + z) :: r) (ax ++ ay)) (mayF ((z + z) :: r)) e w' := fun V B1 B2 =>
    dyad_ravel xso xo so ao xsn xsc xn xc sn sc an ac (z :: r) ax (z :: r) ay _ _ _ V B1.s B1.a B2.s B2.a mx my (fun U k => join_same xso xo so ao xsn xsc xn xc sn sc an ac (z :: r) ax (z :: r) ay U (B1.s.below k (Nat.le_refl _)) s1 (B1.a.below k (Nat.le_refl _)) (B2.s.below k (Nat.le_refl _)) s3 (B2.a.below k (Nat.le_refl _)) mx my hsn0 e1 rfl)
  have c26 : ∀ V, Bj V w.heap.size xso xsn xsc xo xn xc (z :: r) ax → Bj V (w.heap.size + 1) so sn sc ao an ac (z :: r) ay → Calls Tryz.prog 6 #[.int .i64 26, .agg #[.slice xso xsn xsc, .slice xo xn xc], .agg #[.slice so sn sc, .slice ao an ac]] V fun e w' => Ans V V.heap.size (if mayF (2 :: z :: r) = 0 then 2 :: z :: r else []) (if mayF (2 :: z :: r) = 0 then ax ++ ay else []) (if mayF (2 :: z :: r) = 0 then 0 else 17) e w' := fun V B1 B2 =>
    dyad26_any xso xo so ao xsn xsc xn xc sn sc an ac (z :: r) ax ay V B1.s s1 B1.a s2 B2.s s3 B2.a s4 mx my h0 hsn0
  clear e1 hl1
  rw [hF] at c24
  have hG0 : ¬ mayF (2 :: z :: r) = 0 := by omega
  rw [if_neg hG0, if_neg hG0, if_neg hG0] at c26
  have HG : Hid (mayF (2 :: z :: r) = 17) := hG
  clear hG hG0 hF
  go_enter Tryz.func4, Tryz.ntmps4
  go_upto_region 13 with (first
    | (go_at_call 5; (with_reducible refine cG.mono ?_); rintro e w1 ⟨rfl, k1⟩; have X1 := X0.below k1; obtain ⟨a0, a1⟩ := X1.x.c; have cM1 := may6_yes xso xo xsn xsc xn xc (z :: r) ax w1 X1.x.s X1.x.a mx)
    | (go_at_call 8; (with_reducible refine cM1.mono ?_); rintro e w2 ⟨rfl, k2⟩; have X2 := X1.below k2; obtain ⟨b0, b1⟩ := X2.y.c)
    | (go_at_call 8; (with_reducible refine (may6_yes so ao sn sc an ac (z :: r) ay w2 X2.y.s X2.y.a my).mono ?_); rintro e w3 ⟨rfl, k3⟩; have X3 := X2.below k3; obtain ⟨c0, c1⟩ := X3.x.c; obtain ⟨d0, d1⟩ := X3.y.c; have cQ := eqInts_any xso so xsn sn xsc sc (z :: r) (z :: r) w3 X3.x.s X3.y.s; rw [eqB_refl] at cQ)
    | (go_at_call 9; (with_reducible refine cQ.mono ?_); rintro e w4 ⟨rfl, q4, hw4⟩; have k4 : Below w3.heap.size w3 w4 := (by rw [hw4]; exact drewN_belowJ w3 q4); have X4 := X3.below k4; clear hw4; obtain ⟨e0', e1'⟩ := X4.x.c; obtain ⟨f0', f1'⟩ := X4.y.c; obtain ⟨bS, offS, rfl, hbS, hcS⟩ := X4.x.s.cells h0; have cS0 : w4.cell? ⟨bS, offS, none⟩ = some (.int .i64 z) := (by have := hcS 0 h0; rw [Nat.add_zero] at this; exact this); have c24' := c24 w4 X4.x X4.y)
    | (go_at_call 6; (with_reducible refine c24'.mono ?_); rintro e w5 ⟨pA, nA, cA, qA, mA, dA, rfl, f5, g5, k5⟩; have kb5 := box_below w5 (.cells #[.slice pA nA cA, .slice qA mA dA] 25); have k6 := k5.trans (kb5.mono k5.size); have X6 := X4.below k6; have BA6 := bj_new (c1 := cA) (c2 := dA) f5.rd g5.rd; have LA1 := f5.sl; have LA2 := g5.sl; obtain ⟨g0', g1'⟩ := X6.x.c; obtain ⟨i0', i1'⟩ := X6.y.c; have c26' := c26 _ X6.x X6.y)
    | (go_at_call 6; (with_reducible refine c26'.mono ?_); rintro e w7 ⟨pB, nB, cB, qB, mB, dB, rfl, f7, g7, k7⟩; have kb7 := box_below w7 (.cells #[.slice pB nB cB, .slice qB mB dB] 25); have k8 := k7.trans (kb7.mono k7.size); have X8 := X6.below k8; obtain ⟨j0', j1'⟩ := X8.x.c))
  have RS := X8.x.s
  generalize hW8 : w7.alloc (.cells #[.slice pB nB cB, .slice qB mB dB] 25) = W8 at *
  have L2f := lit2 W8
  have kL := box_below W8 (.cells #[.int .i64 2] 3)
  obtain ⟨l0', l1'⟩ := (X8.x.below kL).c
  clear hW8
  go_wp2_with (first
    | (at_builtin; refine wpList_joinG tyI (by rfl) _ _ rfl W8.heap.size (some ⟨W8.heap.size, 0, none⟩) (some ⟨bS, offS, none⟩) 1 1 xsn xsc [2] (z :: r) rfl rfl L2f (RS.below kL (Nat.le_refl _)) s1 (by omega) (by simp) ?_; intro co3 c3 w9 f9 b9; have cF := may_any _ _ c3 _ _ f9.rd; rw [show [2] ++ z :: r = 2 :: z :: r from rfl, HG.out] at cF)
    | (go_at_call 11; (with_reducible refine cF.mono ?_); rintro e wA ⟨rfl, hw⟩; rw [hw]; clear hw wA))
  go_ret
  exact ⟨rfl, X8.bel.trans ((kL.trans b9).mono X8.bel.size)⟩

set_option maxHeartbeats 16000000 in
set_option maxRecDepth 20000 in
theorem joins_ok (xso xo so ao : Option Addr) (xsn xsc xn xc sn sc an ac : Nat) (z : Int) (r ax ay : List Int) (w : World) (h1 : Rd w xso xsn (z :: r)) (s1 : Sl xso xsn xsc) (h2 : Rd w xo xn ax) (s2 : Sl xo xn xc) (h3 : Rd w so sn (z :: r)) (s3 : Sl so sn sc) (h4 : Rd w ao an ay) (s4 : Sl ao an ac) (mx : mayA (z :: r) ax = 0) (my : mayA (z :: r) ay = 0) (hF : mayF ((z + z) :: r) = 0) (hG : mayF (2 :: z :: r) = 0) :
    Calls Tryz.prog 4 #[.agg #[.slice xso xsn xsc, .slice xo xn xc], .agg #[.slice so sn sc, .slice ao an ac]] w fun e w' => e = .returned (.bool true) ∧ Below w.heap.size w w' := by
  have X0 := xy2_start xso xo so ao xsn xsc xn xc sn sc an ac (z :: r) ax (z :: r) ay w h1 s1 h2 s2 h3 s3 h4 s4
  have cG := begun6_any ((w.alloc (.cells #[.slice xso xsn xsc, .slice xo xn xc] 25)).alloc (.cells #[.slice so sn sc, .slice ao an ac] 25))
  have e1 : xsn = sn := by rw [← h1.len, h3.len]
  have hl1 : (z :: r).length = xsn := h1.len
  have h0 : 0 < xsn := by rw [← hl1]; simp
  have t0 : ((xsn : Int) == 0) = false := by simp; omega
  have t0b : (xsn == 0) = false := by simp; omega
  have t0c : ¬ xsn = 0 := by omega
  have b00 : (0 : Int) < (xsn : Int) := by omega
  have hz4 : 0 ≤ z ∧ z ≤ 4096 := nth_small (mayA_zero mx).1 (k := 0) (by simp)
  have hsn0 : 0 < sn := by omega
  have x8 : xsn ≤ 8 := by rw [← hl1]; exact (mayF_zero (mayA_zero mx).1).2.1
  have HD : Hid ((nth (z :: r) 0 + nth (z :: r) 0) :: (z :: r).drop 1 = (z + z) :: r) := rfl
  have c24 : ∀ V, Bj V w.heap.size xso xsn xsc xo xn xc (z :: r) ax → Bj V (w.heap.size + 1) so sn sc ao an ac (z :: r) ay → Calls Tryz.prog 6 #[.int .i64 24, .agg #[.slice xso xsn xsc, .slice xo xn xc], .agg #[.slice so sn sc, .slice ao an ac]] V fun e w' => Ans V V.heap.size (filS ((z + z) :: r)) (jnA ((z + z) :: r) (ax ++ ay)) (mayF ((z + z) :: r)) e w' := fun V B1 B2 =>
    dyad_ravel xso xo so ao xsn xsc xn xc sn sc an ac (z :: r) ax (z :: r) ay _ _ _ V B1.s B1.a B2.s B2.a mx my (fun U k => join_same xso xo so ao xsn xsc xn xc sn sc an ac (z :: r) ax (z :: r) ay U (B1.s.below k (Nat.le_refl _)) s1 (B1.a.below k (Nat.le_refl _)) (B2.s.below k (Nat.le_refl _)) s3 (B2.a.below k (Nat.le_refl _)) mx my hsn0 e1 rfl)
  have c26 : ∀ V, Bj V w.heap.size xso xsn xsc xo xn xc (z :: r) ax → Bj V (w.heap.size + 1) so sn sc ao an ac (z :: r) ay → Calls Tryz.prog 6 #[.int .i64 26, .agg #[.slice xso xsn xsc, .slice xo xn xc], .agg #[.slice so sn sc, .slice ao an ac]] V fun e w' => Ans V V.heap.size (if mayF (2 :: z :: r) = 0 then 2 :: z :: r else []) (if mayF (2 :: z :: r) = 0 then ax ++ ay else []) (if mayF (2 :: z :: r) = 0 then 0 else 17) e w' := fun V B1 B2 =>
    dyad26_any xso xo so ao xsn xsc xn xc sn sc an ac (z :: r) ax ay V B1.s s1 B1.a s2 B2.s s3 B2.a s4 mx my h0 hsn0
  clear e1 hl1
  rw [hF, show filS ((z + z) :: r) = (z + z) :: r from if_pos hF, show jnA ((z + z) :: r) (ax ++ ay) = ax ++ ay from if_pos hF] at c24
  rw [if_pos hG, if_pos hG, if_pos hG] at c26
  obtain ⟨mx1, mx2⟩ := mayA_zero mx
  obtain ⟨my1, my2⟩ := mayA_zero my
  have mD : mayA ((z + z) :: r) (ax ++ ay) = 0 := mayA_ok hF (by rw [List.length_append, Int.natCast_add, mx2, my2, pr_cons, pr_cons, Int.add_mul])
  have mB : mayA (2 :: z :: r) (ax ++ ay) = 0 := mayA_ok hG (by rw [List.length_append, Int.natCast_add, mx2, my2, pr_cons 2]; omega)
  obtain ⟨i0, ⟨a1, a2, a3⟩, ⟨b1, b2, b3⟩, _⟩ := ends_num mB (by omega)
  have lx : ax.length = (pr (z :: r)).toNat := by omega
  rw [← lx, List.take_left] at a3
  rw [show ((2 : Int).toNat - 1) = 1 from rfl, Nat.one_mul, ← lx, List.drop_left] at b3
  have c28 : ∀ V p1 n1 k1 p2 n2 k2, Rd V p1 n1 (2 :: z :: r) → Sl p1 n1 k1 → Rd V p2 n2 (ax ++ ay) → Sl p2 n2 k2 → Calls Tryz.prog 12 #[.int .i64 28, .agg #[.slice p1 n1 k1, .slice p2 n2 k2]] V fun e w' => Ans V V.heap.size (z :: r) ax 0 e w' := fun V p1 n1 k1 p2 n2 k2 q1 q2 q3 q4 =>
    monad_take p1 p2 n1 k1 n2 k2 (2 :: z :: r) (ax ++ ay) _ _ 0 V q1 q3 mB (fun U k => by
      have := first_any p1 p2 n1 k1 n2 k2 (2 :: z :: r) (ax ++ ay) U (q1.below k (Nat.le_refl _)) q2 (q3.below k (Nat.le_refl _)) q4 (by rw [i0]; omega)
      rw [a1, a2, a3] at this
      exact this)
  have c30 : ∀ V p1 n1 k1 p2 n2 k2, Rd V p1 n1 (2 :: z :: r) → Sl p1 n1 k1 → Rd V p2 n2 (ax ++ ay) → Sl p2 n2 k2 → Calls Tryz.prog 12 #[.int .i64 30, .agg #[.slice p1 n1 k1, .slice p2 n2 k2]] V fun e w' => Ans V V.heap.size (z :: r) ay 0 e w' := fun V p1 n1 k1 p2 n2 k2 q1 q2 q3 q4 =>
    monad_tail p1 p2 n1 k1 n2 k2 (2 :: z :: r) (ax ++ ay) _ _ 0 V q1 q3 mB (fun U k => by
      have := last_any p1 p2 n1 k1 n2 k2 (2 :: z :: r) (ax ++ ay) U (q1.below k (Nat.le_refl _)) q2 (q3.below k (Nat.le_refl _)) q4 (by rw [i0]; omega)
      rw [b1, b2, b3] at this
      exact this)
  obtain ⟨t1, t2, t3⟩ := jj_take mx my hF
  obtain ⟨d1, d2, d3⟩ := jj_drop mx my hF
  have cT : ∀ V pA nA cA qA mA dA o k, Bj V w.heap.size xso xsn xsc xo xn xc (z :: r) ax → Rd V pA nA ((z + z) :: r) → Rd V qA mA (ax ++ ay) → Rd V (some o) 1 [z] → Calls Tryz.prog 10 #[.int .i64 28, .agg #[.slice none 0 0, .slice (some o) 1 k], .agg #[.slice pA nA cA, .slice qA mA dA], .agg #[.slice xso xsn xsc, .slice xo xn xc]] V fun e w' => e = .returned (.bool true) ∧ Below V.heap.size V w' := fun V pA nA cA qA mA dA o k B q1 q2 q3 =>
    both_is 28 none (some o) pA qA xso xo 0 0 1 k nA cA mA dA xsn xsc xn xc (z :: r) ax V B.s B.a (fun U j => by
      have := take_s pA qA (some o) nA cA mA dA k (z + z) r (ax ++ ay) z U (q1.below j (Nat.le_refl _)) (q2.below j (Nat.le_refl _)) (q3.below j (Nat.le_refl _)) mD
      rw [t1, t2, t3] at this
      exact this)
  have cU : ∀ V pA nA cA qA mA dA o k, Bj V (w.heap.size + 1) so sn sc ao an ac (z :: r) ay → Rd V pA nA ((z + z) :: r) → Rd V qA mA (ax ++ ay) → Rd V (some o) 1 [z] → Calls Tryz.prog 10 #[.int .i64 29, .agg #[.slice none 0 0, .slice (some o) 1 k], .agg #[.slice pA nA cA, .slice qA mA dA], .agg #[.slice so sn sc, .slice ao an ac]] V fun e w' => e = .returned (.bool true) ∧ Below V.heap.size V w' := fun V pA nA cA qA mA dA o k B q1 q2 q3 =>
    both_is 29 none (some o) pA qA so ao 0 0 1 k nA cA mA dA sn sc an ac (z :: r) ay V B.s B.a (fun U j => by
      have := drop_s pA qA (some o) nA cA mA dA k (z + z) r (ax ++ ay) z U (q1.below j (Nat.le_refl _)) (q2.below j (Nat.le_refl _)) (q3.below j (Nat.le_refl _)) mD
      rw [d1, d2, d3] at this
      exact this)
  have cS := fun V => scalar6_any z V (by omega) (by omega)
  have cE := fun V (o1 : Option Addr) n1 k1 (o2 : Option Addr) n2 k2 (p1 : Option Addr) m1 l1 (p2 : Option Addr) m2 l2 (A : List Int) (q1 : Rd V o1 n1 (z :: r)) (q2 : Rd V o2 n2 A) (q3 : Rd V p1 m1 (z :: r)) (q4 : Rd V p2 m2 A) => eq4_any o1 o2 p1 p2 n1 k1 n2 k2 m1 l1 m2 l2 (z :: r) A (z :: r) A V q1 q2 q3 q4
  simp only [eqA_refl] at cE
  clear a1 a2 a3 b1 b2 b3 i0 t1 t2 t3 d1 d2 d3 mD mB hF hG mx1 mx2 my1 my2 lx
  go_enter Tryz.func4, Tryz.ntmps4
  go_upto_region 16 with (first
    | (go_at_call 5; (with_reducible refine cG.mono ?_); rintro e w1 ⟨rfl, k1⟩; have X1 := X0.below k1; obtain ⟨a0, a1⟩ := X1.x.c; have cM1 := may6_yes xso xo xsn xsc xn xc (z :: r) ax w1 X1.x.s X1.x.a mx)
    | (go_at_call 8; (with_reducible refine cM1.mono ?_); rintro e w2 ⟨rfl, k2⟩; have X2 := X1.below k2; obtain ⟨b0, b1⟩ := X2.y.c)
    | (go_at_call 8; (with_reducible refine (may6_yes so ao sn sc an ac (z :: r) ay w2 X2.y.s X2.y.a my).mono ?_); rintro e w3 ⟨rfl, k3⟩; have X3 := X2.below k3; obtain ⟨c0, c1⟩ := X3.x.c; obtain ⟨d0, d1⟩ := X3.y.c; have cQ := eqInts_any xso so xsn sn xsc sc (z :: r) (z :: r) w3 X3.x.s X3.y.s; rw [eqB_refl] at cQ)
    | (go_at_call 9; (with_reducible refine cQ.mono ?_); rintro e w4 ⟨rfl, q4, hw4⟩; have k4 : Below w3.heap.size w3 w4 := (by rw [hw4]; exact drewN_belowJ w3 q4); have X4 := X3.below k4; clear hw4; obtain ⟨e0', e1'⟩ := X4.x.c; obtain ⟨f0', f1'⟩ := X4.y.c; obtain ⟨bS, offS, rfl, hbS, hcS⟩ := X4.x.s.cells h0; have cS0 : w4.cell? ⟨bS, offS, none⟩ = some (.int .i64 z) := (by have := hcS 0 h0; rw [Nat.add_zero] at this; exact this); have c24' := c24 w4 X4.x X4.y)
    | (go_at_call 6; (with_reducible refine c24'.mono ?_); rintro e w5 ⟨pA, nA, cA, qA, mA, dA, rfl, f5, g5, k5⟩; have kb5 := box_below w5 (.cells #[.slice pA nA cA, .slice qA mA dA] 25); have k6 := k5.trans (kb5.mono k5.size); have X6 := X4.below k6; have BA6 := bj_new (c1 := cA) (c2 := dA) f5.rd g5.rd; have LA1 := f5.sl; have LA2 := g5.sl; obtain ⟨g0', g1'⟩ := X6.x.c; obtain ⟨i0', i1'⟩ := X6.y.c; have c26' := c26 _ X6.x X6.y)
    | (go_at_call 6; (with_reducible refine c26'.mono ?_); rintro e w7 ⟨pB, nB, cB, qB, mB, dB, rfl, f7, g7, k7⟩; have kb7 := box_below w7 (.cells #[.slice pB nB cB, .slice qB mB dB] 25); have k8 := k7.trans (kb7.mono k7.size); have X8 := X6.below k8; have BA8 := BA6.below k8; have BB8 := bj_new (c1 := cB) (c2 := dB) f7.rd g7.rd; obtain ⟨j0', j1'⟩ := BB8.c; have c28' := c28 _ _ _ cB _ _ dB BB8.s f7.sl BB8.a g7.sl)
    | (go_at_call 12; (with_reducible refine c28'.mono ?_); rintro e w9 ⟨pC, nC, cC, qC, mC, dC, rfl, f9, g9, k9⟩; have kb9 := box_below w9 (.cells #[.slice pC nC cC, .slice qC mC dC] 25); have kA := k9.trans (kb9.mono k9.size); have XA := X8.below kA; have BAA := BA8.below kA; have BBA := BB8.below kA; have BCA := bj_new (c1 := cC) (c2 := dC) f9.rd g9.rd; obtain ⟨m0', m1'⟩ := BBA.c; have c30' := c30 _ _ _ cB _ _ dB BBA.s f7.sl BBA.a g7.sl)
    | (go_at_call 12; (with_reducible refine c30'.mono ?_); rintro e wB ⟨pE, nE, cE', qE, mE, dE, rfl, fB, gB, kB⟩; have kbB := box_below wB (.cells #[.slice pE nE cE', .slice qE mE dE] 25); have kC := kB.trans (kbB.mono kB.size); have XC := XA.below kC; have BAC := BAA.below kC; have BCC := BCA.below kC; have BEC := bj_new (c1 := cE') (c2 := dE) fB.rd gB.rd))
  generalize hWC : wB.alloc (.cells #[.slice pE nE cE', .slice qE mE dE] 25) = WC at *
  generalize wB.heap.size = gE at *
  generalize w9.heap.size = gC at *
  generalize w5.heap.size = gA at *
  clear hWC c24 c24' c26 c26' c28 c28' c30 c30' cG cM1 cQ X0 X1 X2 X3 X4 X6 X8 XA BA6 BA8 BAA BB8 BBA BCA kB kbB kC k9 kb9 kA k7 kb7 k8 k5 kb5 k6 k1 k2 k3 k4 f5 g5 f7 g7 f9 g9 fB gB hcS cS0
  have AL : ∀ V, Below WC.heap.size WC V → V.cell? ⟨w.heap.size, 0, none⟩ = some (.slice (some ⟨bS, offS, none⟩) xsn xsc) ∧ V.cell? ⟨w.heap.size, 1, none⟩ = some (.slice xo xn xc) ∧ V.cell? ⟨w.heap.size + 1, 0, none⟩ = some (.slice so sn sc) ∧ V.cell? ⟨w.heap.size + 1, 1, none⟩ = some (.slice ao an ac) ∧ V.cell? ⟨gA, 0, none⟩ = some (.slice pA nA cA) ∧ V.cell? ⟨gA, 1, none⟩ = some (.slice qA mA dA) ∧ V.cell? ⟨gC, 0, none⟩ = some (.slice pC nC cC) ∧ V.cell? ⟨gC, 1, none⟩ = some (.slice qC mC dC) ∧ V.cell? ⟨gE, 0, none⟩ = some (.slice pE nE cE') ∧ V.cell? ⟨gE, 1, none⟩ = some (.slice qE mE dE) ∧ Below WC.heap.size WC V := fun V j => ⟨(XC.x.below j).c.1, (XC.x.below j).c.2, (XC.y.below j).c.1, (XC.y.below j).c.2, (BAC.below j).c.1, (BAC.below j).c.2, (BCC.below j).c.1, (BCC.below j).c.2, (BEC.below j).c.1, (BEC.below j).c.2, j⟩
  have jd : Below WC.heap.size WC WC.drew := (Below.refl _ _).drew
  go_region_held3 (fun V => V.cell? ⟨w.heap.size, 0, none⟩ = some (.slice (some ⟨bS, offS, none⟩) xsn xsc) ∧ V.cell? ⟨w.heap.size, 1, none⟩ = some (.slice xo xn xc) ∧ V.cell? ⟨w.heap.size + 1, 0, none⟩ = some (.slice so sn sc) ∧ V.cell? ⟨w.heap.size + 1, 1, none⟩ = some (.slice ao an ac) ∧ V.cell? ⟨gA, 0, none⟩ = some (.slice pA nA cA) ∧ V.cell? ⟨gA, 1, none⟩ = some (.slice qA mA dA) ∧ V.cell? ⟨gC, 0, none⟩ = some (.slice pC nC cC) ∧ V.cell? ⟨gC, 1, none⟩ = some (.slice qC mC dC) ∧ V.cell? ⟨gE, 0, none⟩ = some (.slice pE nE cE') ∧ V.cell? ⟨gE, 1, none⟩ = some (.slice qE mE dE) ∧ Below WC.heap.size WC V) (first | exact AL _ jd | exact AL _ j6 | exact AL _ j5 | exact AL _ j4 | exact AL _ j3 | exact AL _ j2 | exact AL _ j1)
    (first
      | (go_at_call 13; (with_reducible refine (cS WC.drew).mono ?_); rintro e v1 ⟨x1, rfl, fx1, q1⟩; have j1 := jd.trans (q1.mono jd.size))
      | (go_at_call 10; (with_reducible refine (cT v1 _ _ _ _ _ _ _ _ (XC.x.below j1) (BAC.below j1).s (BAC.below j1).a fx1.rd).mono ?_); rintro e v2 ⟨rfl, q2⟩; have j2 := j1.trans (q2.mono j1.size))
      | (go_at_call 13; (with_reducible refine (cS v2).mono ?_); rintro e v3 ⟨x3, rfl, fx3, q3⟩; have j3 := j2.trans (q3.mono j2.size))
      | (go_at_call 10; (with_reducible refine (cU v3 _ _ _ _ _ _ _ _ (XC.y.below j3) (BAC.below j3).s (BAC.below j3).a fx3.rd).mono ?_); rintro e v4 ⟨rfl, q4⟩; have j4 := j3.trans (q4.mono j3.size))
      | (go_at_call 14; (with_reducible refine (cE v4 _ _ _ _ _ _ _ _ _ _ _ _ _ (BCC.below j4).s (BCC.below j4).a (XC.x.below j4).s (XC.x.below j4).a).mono ?_); rintro e v5 ⟨rfl, q5⟩; have j5 := j4.trans (q5.mono j4.size))
      | (go_at_call 14; (with_reducible refine (cE v5 _ _ _ _ _ _ _ _ _ _ _ _ _ (BEC.below j5).s (BEC.below j5).a (XC.y.below j5).s (XC.y.below j5).a).mono ?_); rintro e v6 ⟨rfl, q6⟩; have j6 := j5.trans (q6.mono j5.size)))
  all_goals (go_wp2; go_ret; exact ⟨rfl, XC.bel.trans (j6.mono XC.bel.size)⟩)
theorem joins_any (xso xo so ao : Option Addr) (xsn xsc xn xc sn sc an ac : Nat) (sx ax sy ay : List Int) (w : World) (h1 : Rd w xso xsn sx) (s1 : Sl xso xsn xsc) (h2 : Rd w xo xn ax) (s2 : Sl xo xn xc) (h3 : Rd w so sn sy) (s3 : Sl so sn sc) (h4 : Rd w ao an ay) (s4 : Sl ao an ac) :
    Calls Tryz.prog 4 #[.agg #[.slice xso xsn xsc, .slice xo xn xc], .agg #[.slice so sn sc, .slice ao an ac]] w fun e w' => e = .returned (.bool true) ∧ Below w.heap.size w w' := by
  by_cases mx : mayA sx ax = 0
  · by_cases my : mayA sy ay = 0
    · by_cases h0 : xsn = 0
      · exact joins_sc xso xo so ao xsn xsc xn xc sn sc an ac sx ax sy ay w h1 s1 h2 s2 h3 s3 h4 s4 mx my h0
      · cases he : eqB sx sy
        · exact joins_ne xso xo so ao xsn xsc xn xc sn sc an ac sx ax sy ay w h1 s1 h2 s2 h3 s3 h4 s4 mx my (by omega) he
        · have e : sx = sy := by simpa [eqB] using he
          subst e
          cases sx with
          | nil => exact absurd h1.len.symm (by simpa using h0)
          | cons z r =>
            have m1 := (mayA_zero mx).1
            have hp := (mayF_zero m1).1
            have g1 : mayF ((z + z) :: r) = 0 ∨ mayF ((z + z) :: r) = 17 := mayF_nn (fun k hk => by
              cases k with
              | zero => have := hp 0 (by simp); simp [nth] at this ⊢; omega
              | succ k => have := hp (k + 1) (by simpa using hk); simpa [nth] using this)
            have g2 : mayF (2 :: z :: r) = 0 ∨ mayF (2 :: z :: r) = 17 := mayF_nn (fun k hk => by
              cases k with
              | zero => simp [nth]
              | succ k => have := hp k (by simpa using hk); simpa [nth] using this)
            rcases g1 with g1 | g1
            · rcases g2 with g2 | g2
              · exact joins_ok xso xo so ao xsn xsc xn xc sn sc an ac z r ax ay w h1 s1 h2 s2 h3 s3 h4 s4 mx my g1 g2
              · exact joins_two xso xo so ao xsn xsc xn xc sn sc an ac z r ax ay w h1 s1 h2 s2 h3 s3 h4 s4 mx my g1 g2
            · exact joins_over xso xo so ao xsn xsc xn xc sn sc an ac z r ax ay w h1 s1 h2 s2 h3 s3 h4 s4 mx my g1
    · exact joins_ny xso xo so ao xsn xsc xn xc sn sc an ac sx ax sy ay w h1 s1 h2 s2 h3 s3 h4 s4 mx my
  · exact joins_nx xso xo so ao xsn xsc xn xc sn sc an ac sx ax sy ay w h1 s1 h2 s2 h3 s3 h4 s4 mx
end Go.Proofs.YtjpdjnkmipfmbaaGreat
