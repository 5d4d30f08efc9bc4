
/- The statement CellBack, walked. -/

import Derived.Test.YtjllmfahmlfljaaG1
import Derived.Test.YtjllmfahmlfljaaF2


namespace Go.Proofs.Ytjllmfahmlfljaa

open Go.RowKit Go.Deep

set_option linter.unusedVariables false

/-- An append as a step of a region that draws its order, one that is asked for. -/
theorem step_joinG {s e : TypeId} (ty : Ty s e) {ops : Array Oper} {o : Oper} {a : Act} {w : World} {K : Act → World → Prop} {Q : Exit → Act → World → Prop} {E : Prop}
    (hw : Region.wanted o (yielded ops a.tmps) = true) (p x : Operand) (ho : o.op = .call { callee := .builtin .append, args := #[p, x], argTypes := #[s, s] }) (B : Nat) (ao bo : Option Addr) (n cap m cap' : Nat) (zs ys : List Int)
    (hs : a.eval p = .slice ao n cap) (hx : a.eval x = .slice bo m cap') (h : Ft e w B ao n cap zs) (g : Rd w bo m ys) (gs : Sl bo m cap') (hr : (n + m) * 8 ≤ 140737488351232) (hB : B ≤ w.heap.size)
    (hK : ∀ co c w', Ft e w' B co (n + m) c (zs ++ ys) → Below B w w' → K (a.put o.dst (.slice co (n + m) c)) w') :
    if Region.wanted o (yielded ops a.tmps) = true then Oper.wp Try.prog o a w K Q else E := by
  rw [if_pos hw]
  obtain ⟨co, c, w', hrun, hf, hg⟩ := run_joinT ty o.type B ao bo n cap m cap' zs ys h g gs hr hB
  unfold Oper.wp
  simp [execOp, ho, resolve, invoke, builtin, hs, hx, hrun, Result.andThen]
  exact hK _ _ _ hf ((Below.refl _ _).grown hg hB fun k e => (h.own.lt k e).1)

/-- The array and its cells, each in a box. -/
structure Cb (w V : World) (so : Option Addr) (sn sc : Nat) (ao : Option Addr) (an ac g1 : Nat) (fo : Option Addr) (fn fc gg N : Nat) (o1 : Option Addr) (n1 c1 : Nat) (o2 : Option Addr) (n2 c2 : Nat) (sh at' : List Int) (r : Int) : Prop where
  y0 : V.cell? ⟨w.heap.size, 0, none⟩ = some (.slice so sn sc)
  y1 : V.cell? ⟨w.heap.size, 1, none⟩ = some (.slice ao an ac)
  b0 : V.cell? ⟨g1, 0, none⟩ = some (.slice fo fn fc)
  b1 : V.cell? ⟨g1, 1, none⟩ = some (.slice (some ⟨gg, 0, none⟩) N N)
  b2 : V.cell? ⟨g1, 2, none⟩ = some (.slice o1 n1 c1)
  b3 : V.cell? ⟨g1, 3, none⟩ = some (.slice o2 n2 c2)
  s : Rd V so sn sh
  a : Rd V ao an at'
  f : Ft 3 V w.heap.size fo fn fc (frm sh r)
  cs : Ac V gg N N (cls sh at' r)
  i : Ft 3 V w.heap.size o1 n1 c1 (inn sh r)
  l : Ft 2 V w.heap.size o2 n2 c2 (List.replicate (clz sh r) 0)
  bel : Below w.heap.size w V
theorem Cb.below {w V : World} {so : Option Addr} {sn sc : Nat} {ao : Option Addr} {an ac g1 : Nat} {fo : Option Addr} {fn fc gg N : Nat} {o1 : Option Addr} {n1 c1 : Nat} {o2 : Option Addr} {n2 c2 : Nat} {sh at' : List Int} {r : Int} {V' : World} (h : Cb w V so sn sc ao an ac g1 fo fn fc gg N o1 n1 c1 o2 n2 c2 sh at' r) (k : Below V.heap.size V V') : Cb w V' so sn sc ao an ac g1 fo fn fc gg N o1 n1 c1 o2 n2 c2 sh at' r :=
  have c : ∀ a v, V.cell? a = some v → V'.cell? a = some v := fun a v e => cellB k e (Nat.le_refl _)
  ⟨c _ _ h.y0, c _ _ h.y1, c _ _ h.b0, c _ _ h.b1, c _ _ h.b2, c _ _ h.b3, h.s.below k (Nat.le_refl _), h.a.below k (Nat.le_refl _), h.f.below k (Nat.le_refl _), h.cs.below k, h.i.below k (Nat.le_refl _), h.l.below k (Nat.le_refl _), btw h.bel k h.bel.size⟩
theorem Cb.all {w V : World} {so : Option Addr} {sn sc : Nat} {ao : Option Addr} {an ac g1 : Nat} {fo : Option Addr} {fn fc gg N : Nat} {o1 : Option Addr} {n1 c1 : Nat} {o2 : Option Addr} {n2 c2 : Nat} {sh at' : List Int} {r : Int} (h : Cb w V so sn sc ao an ac g1 fo fn fc gg N o1 n1 c1 o2 n2 c2 sh at' r) : V.cell? ⟨w.heap.size, 0, none⟩ = some (.slice so sn sc) ∧ V.cell? ⟨w.heap.size, 1, none⟩ = some (.slice ao an ac) ∧ V.cell? ⟨g1, 0, none⟩ = some (.slice fo fn fc) ∧ V.cell? ⟨g1, 1, none⟩ = some (.slice (some ⟨gg, 0, none⟩) N N) ∧ V.cell? ⟨g1, 2, none⟩ = some (.slice o1 n1 c1) ∧ V.cell? ⟨g1, 3, none⟩ = some (.slice o2 n2 c2) ∧ Cb w V so sn sc ao an ac g1 fo fn fc gg N o1 n1 c1 o2 n2 c2 sh at' r := ⟨h.y0, h.y1, h.b0, h.b1, h.b2, h.b3, h⟩

theorem back_one (so ao : Option Addr) (sn sc an ac : Nat) (sh at' : List Int) (r : Int) (N : Nat) (hN : npl sh r = N) (w : World) (h : Rd w so sn sh) (hs : Sl so sn sc) (g : Rd w ao an at') (gs : Sl ao an ac) (h0 : mayA sh at' = 0) (r1 : -9223372036854775808 ≤ r) (r2 : r ≤ 9223372036854775807) :
    Calls Try.prog 10 #[.agg #[.slice so sn sc, .slice ao an ac], .int .i64 r] w fun e w' => ∃ fo fn fc gg o1 n1 c1 o2 n2 c2, e = .returned (.tuple #[.agg #[.slice fo fn fc, .slice (some ⟨gg, 0, none⟩) N N, .slice o1 n1 c1, .slice o2 n2 c2], .int .i64 0]) ∧
      Ft 3 w' w.heap.size fo fn fc (frm sh r) ∧ Ac w' gg N N (cls sh at' r) ∧ w.heap.size ≤ gg ∧ Ft 3 w' w.heap.size o1 n1 c1 (inn sh r) ∧ Ft 2 w' w.heap.size o2 n2 c2 (List.replicate (clz sh r) 0) ∧ Below w.heap.size w w' := by
  subst hN
  exact one_ok so ao sn sc an ac sh at' r w h hs g gs h0 r1 r2
theorem back_join {sh at' : List Int} {r : Int} (k : Bk sh at' r) (N : Nat) (hN : npl sh r = N) (h0 : 0 < N) (fo : Option Addr) (fn fc gg B : Nat) (w : World) (hf : Ft 3 w B fo fn fc (frm sh r)) (ha : Ac w gg N N (cls sh at' r)) :
    Calls Try.prog 15 #[.slice fo fn fc, .slice (some ⟨gg, 0, none⟩) N N] w fun e w' => ∃ o1 n1 c1 o2 n2 c2, e = .returned (.tuple #[.agg #[.slice o1 n1 c1, .slice o2 n2 c2], .int .i64 0]) ∧ Rd w' o1 n1 sh ∧ Rd w' o2 n2 at' ∧ Below w.heap.size w w' := by
  subst hN
  obtain ⟨e1, e2⟩ := k.whole h0
  refine (join_ok fo fn fc (frm sh r) _ (npl sh r) (npl sh r) (cls sh at' r) w hf.rd hf.sl (ha.as k.n4) (k.beg h0) (jF_zero _ k.joins) k.n).mono fun e w' ⟨o1, n1, c1, o2, n2, c2, x1, x2, x3, x4⟩ => ?_
  rw [e2] at x3
  rw [e1] at x2
  exact ⟨o1, n1, c1, o2, n2, c2, x1, x2.rd, x3.rd, x4⟩
theorem back_empty {sh at' : List Int} {r : Int} (k : Bk sh at' r) (h0 : npl sh r = 0) (fo : Option Addr) (fn fc B : Nat) (lo bo : Option Addr) (ln lc bn bc : Nat) (w : World) (hf : Ft 3 w B fo fn fc (frm sh r)) (hi : Ft 3 w B lo ln lc (inn sh r)) (hl : Ft 2 w B bo bn bc (List.replicate (clz sh r) 0)) :
    Calls Try.prog 13 #[.slice fo fn fc, .agg #[.slice lo ln lc, .slice bo bn bc], .bool true] w fun e w' => ∃ o1 n1 c1 o2 n2 c2, e = .returned (.tuple #[.agg #[.slice o1 n1 c1, .slice o2 n2 c2], .int .i64 0]) ∧ Rd w' o1 n1 sh ∧ Rd w' o2 n2 at' ∧ Below w.heap.size w w' := by
  obtain ⟨e1, e2⟩ := k.empty h0
  refine (empty_any fo fn fc (frm sh r) lo bo ln lc bn bc (inn sh r) (List.replicate (clz sh r) 0) true w hf.rd hf.sl hi.rd hi.sl hl.rd).mono fun e w' ⟨o1, n1, c1, o2, n2, c2, x1, x2, x3, x4⟩ => ?_
  rw [e1] at x1
  rw [e2] at x2
  rw [← k.none h0] at x3
  exact ⟨o1, n1, c1, o2, n2, c2, x1, x2.rd, x3.rd, x4⟩
theorem back_size {sh at' : List Int} {r : Int} (k : Bk sh at' r) (N : Nat) (hN : npl sh r = N) (fo : Option Addr) (fn fc B : Nat) (w : World) (hf : Ft 3 w B fo fn fc (frm sh r)) :
    Calls Try.prog 11 #[.slice fo fn fc] w fun e w' => e = .returned (.tuple #[.int .i64 (N : Nat), .int .i64 0]) ∧ w' = w := by
  have := size_any fo fn fc (frm sh r) w hf.rd
  rwa [k.mf, sizeF_ok k.mf, ← k.n, hN] at this
theorem back_eq (so ao tp bo : Option Addr) (sn sc an ac tn tc bn bc : Nat) (s a : List Int) (w : World) (hs : Rd w so sn s) (ha : Rd w ao an a) (ht : Rd w tp tn s) (hb : Rd w bo bn a) :
    Calls Try.prog 14 #[.agg #[.slice so sn sc, .slice ao an ac], .agg #[.slice tp tn tc, .slice bo bn bc]] w fun e w' => e = .returned (.bool true) ∧ Below w.heap.size w w' := by
  have := eq4_any so ao tp bo sn sc an ac tn tc bn bc s a s a w hs ha ht hb
  rwa [eqA_refl] at this
theorem back_ints (so ao : Option Addr) (sn sc an ac : Nat) (s : List Int) (w : World) (hs : Rd w so sn s) (ha : Rd w ao an s) :
    Calls Try.prog 12 #[.slice so sn sc, .slice ao an ac] w fun e w' => e = .returned (.bool true) ∧ Below w.heap.size w w' :=
  (eqInts_any so ao sn an sc ac s s w hs ha).mono fun e w' ⟨x1, q, x2⟩ => ⟨by rw [x1, eqB_refl], x2 ▸ below_drewN (Below.refl _ _) _⟩

set_option maxHeartbeats 8000000 in
set_option maxRecDepth 20000 in
theorem back_may (so ao : Option Addr) (sn sc an ac : Nat) (sh at' : List Int) (r : Int) (w : World) (h : Rd w so sn sh) (g : Rd w ao an at') (h0 : mayA sh at' ≠ 0) :
    Calls Try.prog 3 #[.agg #[.slice so sn sc, .slice ao an ac], .int .i64 r] w fun e w' => e = .returned (.bool true) ∧ Below w.heap.size w w' := by
  have I0 := bx_new (sc := sc) (ac := ac) h g
  have K0 := box_below w (.cells #[.slice so sn sc, .slice ao an ac] 25)
  have ho := fun W (x : Rd W so sn sh) (y : Rd W ao an at') => one_may so ao sn sc an ac sh at' r W x y h0
  have hz := fun W (x : Rd W so sn sh) => size_any so sn sc sh W x
  have HL : Hid (at'.length = an) := g.len
  have ga := g.room
  have key : ∀ (P : Prop), (∀ (f n : Int), sizeF sh = n → mayF sh = f → (f != 0) = true → P) → ((mayF sh = 0) → (sizeF sh != (an : Int)) = true → P) → P := fun P p1 p2 => by
    rcases mayA_why h0 with c | ⟨c, d⟩
    · exact p1 _ _ rfl rfl (by simpa using c)
    · exact p2 c (by rw [← HL.out]; simpa using d)
  apply key
  · intro f n e1 e2 t1
    rw [e1, e2] at hz
    clear key h0 e1 e2
    go_enter Try.func3, Try.ntmps3
    go_wp2_with (first
      | (go_at_call 9; refine (begun4_any _).mono ?_; rintro e W1 ⟨rfl, k1⟩; have I1 := I0.below k1; have K1 := btw K0 k1 K0.size; have I1' := I1; obtain ⟨p0, p1, _, _⟩ := I1')
      | (go_at_call 10; refine (ho _ I1.s I1.a).mono ?_; rintro e W2 ⟨rfl, k2⟩; have I2 := (I1.below k2).below (box_below W2 (.cells #[.slice none 0 0, .slice none 0 0, .slice none 0 0, .slice none 0 0] 29)); have K2 := btw K1 k2 K1.size; have K3 := btw K2 (box_below W2 (.cells #[.slice none 0 0, .slice none 0 0, .slice none 0 0, .slice none 0 0] 29)) K2.size; have I2' := I2; obtain ⟨q0, q1, _, _⟩ := I2')
      | (go_at_call 11; refine (hz _ I2.s).mono ?_; rintro e W3 ⟨rfl, rfl⟩))
    go_ret
    exact ⟨rfl, K3⟩
  · intro e1 t2
    rw [e1] at hz
    generalize sizeF sh = n at *
    clear key h0 e1
    go_enter Try.func3, Try.ntmps3
    go_wp2_with (first
      | (go_at_call 9; refine (begun4_any _).mono ?_; rintro e W1 ⟨rfl, k1⟩; have I1 := I0.below k1; have K1 := btw K0 k1 K0.size; have I1' := I1; obtain ⟨p0, p1, _, _⟩ := I1')
      | (go_at_call 10; refine (ho _ I1.s I1.a).mono ?_; rintro e W2 ⟨rfl, k2⟩; have I2 := (I1.below k2).below (box_below W2 (.cells #[.slice none 0 0, .slice none 0 0, .slice none 0 0, .slice none 0 0] 29)); have K2 := btw K1 k2 K1.size; have K3 := btw K2 (box_below W2 (.cells #[.slice none 0 0, .slice none 0 0, .slice none 0 0, .slice none 0 0] 29)) K2.size; have I2' := I2; obtain ⟨q0, q1, _, _⟩ := I2')
      | (go_at_call 11; refine (hz _ I2.s).mono ?_; rintro e W3 ⟨rfl, rfl⟩))
    go_ret
    exact ⟨rfl, K3⟩

set_option maxHeartbeats 20000000 in
set_option maxRecDepth 20000 in
theorem back_ok (so ao : Option Addr) (sn sc an ac : Nat) (sh at' : List Int) (r : Int) (w : World) (h : Rd w so sn sh) (hs : Sl so sn sc) (g : Rd w ao an at') (gs : Sl ao an ac) (h0 : mayA sh at' = 0) (r1 : -9223372036854775808 ≤ r) (r2 : r ≤ 9223372036854775807) :
    Calls Try.prog 3 #[.agg #[.slice so sn sc, .slice ao an ac], .int .i64 r] w fun e w' => e = .returned (.bool true) ∧ Below w.heap.size w w' := by
  have K := bk_of r h0
  obtain ⟨N, hN⟩ : ∃ N, npl sh r = N := ⟨_, rfl⟩
  have HN : Hid (npl sh r = N) := hN
  have I0 := bx_new (sc := sc) (ac := ac) h g
  have K0 := box_below w (.cells #[.slice so sn sc, .slice ao an ac] 25)
  have ho := fun W (x : Rd W so sn sh) (y : Rd W ao an at') => back_one so ao sn sc an ac sh at' r N hN W x hs y gs h0 r1 r2
  have hz := fun W fo fn fc (x : Ft 3 W w.heap.size fo fn fc (frm sh r)) => back_size K N hN fo fn fc w.heap.size W x
  have hsn : sn ≤ 8 := by rw [← h.len]; exact (mayF_zero K.ms).2.1
  have hlen : (frm sh r).length + (inn sh r).length = sn := by rw [← h.len, ← List.length_append, K.cut]
  have HC : Hid (frm sh r ++ inn sh r = sh) := K.cut
  clear hN h0
  go_enter Try.func3, Try.ntmps3
  go_wp2_with (first
    | (go_at_call 9; refine (begun4_any _).mono ?_; rintro e W1 ⟨rfl, k1⟩; have I1 := I0.below k1; have K1 := btw K0 k1 K0.size; have I1' := I1; obtain ⟨p0, p1, _, _⟩ := I1')
    | (go_at_call 10; refine (ho _ I1.s I1.a).mono ?_; rintro e W2 ⟨fo, fn, fc, gg, o1, n1, c1, o2, n2, c2, rfl, x1, x2, x3, x4, x5, k2⟩; have C : Cb w (W2.alloc (.cells #[.slice fo fn fc, .slice (some ⟨gg, 0, none⟩) N N, .slice o1 n1 c1, .slice o2 n2 c2] 29)) so sn sc ao an ac W2.heap.size fo fn fc gg N o1 n1 c1 o2 n2 c2 sh at' r := (by
          have kb := box_below W2 (.cells #[.slice fo fn fc, .slice (some ⟨gg, 0, none⟩) N N, .slice o1 n1 c1, .slice o2 n2 c2] 29)
          obtain ⟨e0, e1, e2, e3, _, _, _, _⟩ := box4 (allocNew W2 (.cells #[.slice fo fn fc, .slice (some ⟨gg, 0, none⟩) N N, .slice o1 n1 c1, .slice o2 n2 c2] 29))
          have I2 := (I1.below k2).below kb
          have K2 := btw (btw K1 k2 K1.size) kb (btw K1 k2 K1.size).size
          exact ⟨I2.c0, I2.c1, e0, e1, e2, e3, I2.s, I2.a, (x1.mono K1.size).below kb (Nat.le_refl _), x2.below kb, (x4.mono K1.size).below kb (Nat.le_refl _), (x5.mono K1.size).below kb (Nat.le_refl _), K2⟩); have C' := C; obtain ⟨q0, q1, q2, q3, q4, q5, _, _, _, _, _, _, _⟩ := C')
    | (go_at_call 11; refine (hz _ _ _ _ C.f).mono ?_; rintro e W3 ⟨rfl, rfl⟩))
  obtain ⟨W, hW⟩ : ∃ W, W2.alloc (.cells #[.slice fo fn fc, .slice (some ⟨gg, 0, none⟩) N N, .slice o1 n1 c1, .slice o2 n2 c2] 29) = W := ⟨_, rfl⟩
  rw [hW] at C q0 q1 q2 q3 q4 q5 ⊢
  clear hW x1 x2 x3 x4 x5 k2 k1 I0 I1 K0 K1 ho hz p0 p1
  generalize W2.heap.size = g1 at *
  have al : ∀ V, Below W.heap.size W V → V.cell? ⟨w.heap.size, 0, none⟩ = some (.slice so sn sc) ∧ V.cell? ⟨w.heap.size, 1, none⟩ = some (.slice ao an ac) ∧ V.cell? ⟨g1, 0, none⟩ = some (.slice fo fn fc) ∧ V.cell? ⟨g1, 1, none⟩ = some (.slice (some ⟨gg, 0, none⟩) N N) ∧ V.cell? ⟨g1, 2, none⟩ = some (.slice o1 n1 c1) ∧ V.cell? ⟨g1, 3, none⟩ = some (.slice o2 n2 c2) ∧ Below W.heap.size W V := fun V b => ⟨(C.below b).y0, (C.below b).y1, (C.below b).b0, (C.below b).b1, (C.below b).b2, (C.below b).b3, b⟩
  have lf := C.f.rd.len
  have li := C.i.rd.len
  have HF : Hid (fn = (frm sh r).length ∧ n1 = (inn sh r).length) := ⟨lf.symm, li.symm⟩
  have fn8 : (0 + fn) * 8 ≤ 140737488351232 := by omega
  have fn9 : (fn + n1) * 8 ≤ 140737488351232 := by omega
  clear lf li
  go_region_held3 (fun V => V.cell? ⟨w.heap.size, 0, none⟩ = some (.slice so sn sc) ∧ V.cell? ⟨w.heap.size, 1, none⟩ = some (.slice ao an ac) ∧ V.cell? ⟨g1, 0, none⟩ = some (.slice fo fn fc) ∧ V.cell? ⟨g1, 1, none⟩ = some (.slice (some ⟨gg, 0, none⟩) N N) ∧ V.cell? ⟨g1, 2, none⟩ = some (.slice o1 n1 c1) ∧ V.cell? ⟨g1, 3, none⟩ = some (.slice o2 n2 c2) ∧ Below W.heap.size W V) (first | exact al _ (by assumption) | exact al _ (Below.drew (by assumption)) | exact al _ (Below.refl _ _) | exact al _ (Below.refl _ _).drew)
    (first
      | (have HB := (‹_ ∧ _ ∧ _ ∧ _ ∧ _ ∧ _ ∧ Below W.heap.size W _›).2.2.2.2.2.2; refine step_joinG tyI rfl (.const (.slice none 0 0)) (.tmp 74) rfl W.heap.size none fo 0 0 fn fc [] (frm sh r) rfl rfl (Ft.nil _ _ _) (C.below HB).f.rd (C.below HB).f.sl fn8 HB.size ?_; intro co1 cc1 v1 F1 g1'; rw [Nat.zero_add, List.nil_append] at F1; have HB1 := HB.trans g1'; rw [Nat.zero_add])
      | (have HB := (‹_ ∧ _ ∧ _ ∧ _ ∧ _ ∧ _ ∧ Below W.heap.size W _›).2.2.2.2.2.2; refine step_joinG tyI rfl (.tmp 75) (.tmp 78) rfl W.heap.size co1 o1 fn cc1 n1 c1 (frm sh r) (inn sh r) rfl rfl (by first | exact F1 | exact F1.below (Below.refl _ _).drew (Nat.le_refl _)) (C.below HB).i.rd (C.below HB).i.sl fn9 HB.size ?_; intro co2 cc2 v2 F2 g2'; rw [HC.out] at F2; have HB2 := HB.trans g2')
      | (go_at_call 12; have HB := (‹_ ∧ _ ∧ _ ∧ _ ∧ _ ∧ _ ∧ Below W.heap.size W _›).2.2.2.2.2.2; (with_reducible refine (back_ints _ _ _ _ _ _ sh _ (by first | exact F2.rd | exact F2.rd.below (Below.refl _ _).drew (Nat.le_refl _)) (C.below HB).s).mono ?_); rintro e v3 ⟨rfl, g3⟩; have HB3 := btw HB g3 HB.size))
  have C3 := C.below HB3
  clear al F1 F2 g1' g2' g3 HB1 HB2 HB3 C q0 q1 q2 q3 q4 q5 HF fn8 fn9
  go_wp2
  go_loopw [11] (fun i V => ∃ k : Nat, k ≤ n2 ∧ i = .int .i64 (k : Nat) ∧ Cb w V so sn sc ao an ac g1 fo fn fc gg N o1 n1 c1 o2 n2 c2 sh at' r) (fun i _ => n2 - (intOf i).toNat)
  case atStart => exact ⟨0, Nat.zero_le _, rfl, C3⟩
  case round =>
    obtain ⟨k, kn, rfl, J⟩ := hrel
    have J' := J
    obtain ⟨u0, u1, u2, u3, u4, u5, _, _, _, _, _, _, _⟩ := J'
    have hroom := J.l.rd.room
    clear C3
    by_cases cc1 : k < n2
    · have t1 : decide ((k : Int) < (n2 : Int)) = true := by simp; omega
      have b1 : (k : Int) < (n2 : Int) := by omega
      have w1 : IntKind.i64.wrap ((k : Int) + 1) = (k : Int) + 1 := wrapIn _ (by omega)
      obtain ⟨p, off, rfl, hp, hc⟩ := J.l.rd.cells (by omega)
      have d1 := hc k cc1
      have hl := J.l.rd.len
      rw [List.length_replicate] at hl
      rw [show nth (List.replicate (clz sh r) (0 : Int)) k = 0 by simp [nth, List.getElem?_replicate]; split <;> rfl] at d1
      clear hc hl
      go_wp2
      go_roundw
      case rel => exact ⟨k + 1, by omega, by go_num, J⟩
      case measure => simp [intOf]; omega
    · obtain rfl : k = n2 := by omega
      have t1 : decide ((k : Int) < (k : Int)) = false := by simp
      by_cases z : N = 0
      · subst z
        go_wp2_with (first
          | (go_at_call 13; (with_reducible refine (back_empty K HN.out fo fn fc w.heap.size _ _ _ _ _ _ _ J.f J.i J.l).mono ?_); rintro e W5 ⟨p1, m1, d1, p2, m2, d2, rfl, y1, y2, k5⟩; have kb := box_below W5 (.cells #[.slice p1 m1 d1, .slice p2 m2 d2] 25); have J6 := (J.below k5).below kb; have y3 := y1.below kb (Nat.le_refl _); have y4 := y2.below kb (Nat.le_refl _); obtain ⟨l0, l1, _, _⟩ := box2 (allocNew W5 (.cells #[.slice p1 m1 d1, .slice p2 m2 d2] 25)); have J6' := J6; obtain ⟨u0, u1, u2, u3, u4, u5, _, _, _, _, _, _, _⟩ := J6')
          | (go_at_call 14; (with_reducible refine (back_eq _ _ _ _ _ _ _ _ _ _ _ _ sh at' _ y3 y4 J6.s J6.a).mono ?_); rintro e W6 ⟨rfl, k6⟩))
        go_ret
        exact ⟨rfl, btw J6.bel k6 J6.bel.size⟩
      · have z3 : ((N : Int) == 0) = false := by simp; omega
        go_wp2_with (first
          | (go_at_call 15; (with_reducible refine (back_join K N HN.out (by omega) fo fn fc gg w.heap.size _ J.f J.cs).mono ?_); rintro e W5 ⟨p1, m1, d1, p2, m2, d2, rfl, y1, y2, k5⟩; have kb := box_below W5 (.cells #[.slice p1 m1 d1, .slice p2 m2 d2] 25); have J6 := (J.below k5).below kb; have y3 := y1.below kb (Nat.le_refl _); have y4 := y2.below kb (Nat.le_refl _); obtain ⟨l0, l1, _, _⟩ := box2 (allocNew W5 (.cells #[.slice p1 m1 d1, .slice p2 m2 d2] 25)); have J6' := J6; obtain ⟨u0, u1, u2, u3, u4, u5, _, _, _, _, _, _, _⟩ := J6')
          | (go_at_call 14; (with_reducible refine (back_eq _ _ _ _ _ _ _ _ _ _ _ _ sh at' _ y3 y4 J6.s J6.a).mono ?_); rintro e W6 ⟨rfl, k6⟩))
        go_ret
        exact ⟨rfl, btw J6.bel k6 J6.bel.size⟩

theorem back_walk (so ao : Option Addr) (sn sc an ac : Nat) (sh at' : List Int) (r : Int) (w : World) (h : Rd w so sn sh) (hs : Sl so sn sc) (g : Rd w ao an at') (gs : Sl ao an ac) (r1 : -9223372036854775808 ≤ r) (r2 : r ≤ 9223372036854775807) :
    Calls Try.prog 3 #[.agg #[.slice so sn sc, .slice ao an ac], .int .i64 r] w fun e w' => e = .returned (.bool true) ∧ Below w.heap.size w w' := by
  by_cases c : mayA sh at' = 0
  · exact back_ok so ao sn sc an ac sh at' r w h hs g gs c r1 r2
  · exact back_may so ao sn sc an ac sh at' r w h g c
end Go.Proofs.Ytjllmfahmlfljaa
