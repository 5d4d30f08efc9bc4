
/- The statement CellPairs, walked: where there is nothing to pair. -/

import Derived.Test.YtjllmfahmlfljaaPrA
import Derived.Test.YtjllmfahmlfljaaG2


namespace Go.Proofs.Ytjllmfahmlfljaa

open Go.RowKit Go.Deep

set_option linter.unusedVariables false

theorem bx7 {W : World} {g : Nat} {a b c d e f i : Value} {t : TypeId} (h : W.heap[g]? = some (.cells #[a, b, c, d, e, f, i] t (0, 0))) :
    W.cell? ⟨g, 0, none⟩ = some a ∧ W.cell? ⟨g, 1, none⟩ = some b ∧ W.cell? ⟨g, 2, none⟩ = some c ∧ W.cell? ⟨g, 3, none⟩ = some d ∧ W.cell? ⟨g, 4, none⟩ = some e ∧ W.cell? ⟨g, 5, none⟩ = some f ∧ W.cell? ⟨g, 6, none⟩ = some i :=
  ⟨(cell_of_row W g 0 _ t (0, 0) h).trans rfl, (cell_of_row W g 1 _ t (0, 0) h).trans rfl, (cell_of_row W g 2 _ t (0, 0) h).trans rfl, (cell_of_row W g 3 _ t (0, 0) h).trans rfl, (cell_of_row W g 4 _ t (0, 0) h).trans rfl, (cell_of_row W g 5 _ t (0, 0) h).trans rfl, (cell_of_row W g 6 _ t (0, 0) h).trans rfl⟩

/-- Two arrays, each in a box. -/
structure Xy (w V : World) (so : Option Addr) (sn sc : Nat) (ao : Option Addr) (an ac : Nat) (tp : Option Addr) (tn tc : Nat) (bo : Option Addr) (bn bc : Nat) (s a t b : List Int) : Prop where
  x0 : V.cell? ⟨w.heap.size, 0, none⟩ = some (.slice so sn sc)
  x1 : V.cell? ⟨w.heap.size, 1, none⟩ = some (.slice ao an ac)
  y0 : V.cell? ⟨w.heap.size + 1, 0, none⟩ = some (.slice tp tn tc)
  y1 : V.cell? ⟨w.heap.size + 1, 1, none⟩ = some (.slice bo bn bc)
  s : Rd V so sn s
  a : Rd V ao an a
  t : Rd V tp tn t
  b : Rd V bo bn b
  bel : Below w.heap.size w V
theorem Xy.below {w V V' : World} {so : Option Addr} {sn sc : Nat} {ao : Option Addr} {an ac : Nat} {tp : Option Addr} {tn tc : Nat} {bo : Option Addr} {bn bc : Nat} {s a t b : List Int} (h : Xy w V so sn sc ao an ac tp tn tc bo bn bc s a t b) (k : Below V.heap.size V V') : Xy w V' so sn sc ao an ac tp tn tc bo bn bc s a t b :=
  ⟨cellB k h.x0 (Nat.le_refl _), cellB k h.x1 (Nat.le_refl _), cellB k h.y0 (Nat.le_refl _), cellB k h.y1 (Nat.le_refl _), h.s.below k (Nat.le_refl _), h.a.below k (Nat.le_refl _), h.t.below k (Nat.le_refl _), h.b.below k (Nat.le_refl _), btw h.bel k h.bel.size⟩
theorem xy_start (w : World) (so : Option Addr) (sn sc : Nat) (ao : Option Addr) (an ac : Nat) (tp : Option Addr) (tn tc : Nat) (bo : Option Addr) (bn bc : Nat) (s a t b : List Int) (hs : Rd w so sn s) (ha : Rd w ao an a) (ht : Rd w tp tn t) (hb : Rd w bo bn b) :
    Xy w ((w.alloc (.cells #[.slice so sn sc, .slice ao an ac] 25)).alloc (.cells #[.slice tp tn tc, .slice bo bn bc] 25)) so sn sc ao an ac tp tn tc bo bn bc s a t b := by
  have k1 := box_below w (.cells #[.slice so sn sc, .slice ao an ac] 25)
  have k2 := box_below (w.alloc (.cells #[.slice so sn sc, .slice ao an ac] 25)) (.cells #[.slice tp tn tc, .slice bo bn bc] 25)
  have k := btw k1 k2 k1.size
  obtain ⟨e0, e1, _, _⟩ := box2 (allocNew w (.cells #[.slice so sn sc, .slice ao an ac] 25))
  obtain ⟨f0, f1, _, _⟩ := box2 (allocNew (w.alloc (.cells #[.slice so sn sc, .slice ao an ac] 25)) (.cells #[.slice tp tn tc, .slice bo bn bc] 25))
  simp only [World.size_alloc] at f0 f1
  exact ⟨cellB k2 e0 (Nat.le_refl _), cellB k2 e1 (Nat.le_refl _), f0, f1, hs.below k (Nat.le_refl _), ha.below k (Nat.le_refl _), ht.below k (Nat.le_refl _), hb.below k (Nat.le_refl _), k⟩

set_option maxHeartbeats 8000000 in
set_option maxRecDepth 20000 in
theorem pairs_no1 (so ao tp bo : Option Addr) (sn sc an ac tn tc bn bc : Nat) (s a t b : List Int) (l r : Int) (w : World) (hs : Rd w so sn s) (ss : Sl so sn sc) (ha : Rd w ao an a) (sa : Sl ao an ac) (ht : Rd w tp tn t) (st : Sl tp tn tc) (hb : Rd w bo bn b) (sb : Sl bo bn bc) (l1 : -9223372036854775808 ≤ l) (l2 : l ≤ 9223372036854775807) (r1 : -9223372036854775808 ≤ r) (r2 : r ≤ 9223372036854775807) (h0 : mayA s a ≠ 0) :
    Calls Try.prog 4 #[.agg #[.slice so sn sc, .slice ao an ac], .agg #[.slice tp tn tc, .slice bo bn bc], .int .i64 l, .int .i64 r] w fun e w' => e = .returned (.bool true) ∧ Below w.heap.size w w' := by
  have I0 := xy_start w so sn sc ao an ac tp tn tc bo bn bc s a t b hs ha ht hb
  have htw := fun V (x : Rd V so sn s) (y : Rd V ao an a) (z : Rd V tp tn t) (u : Rd V bo bn b) => two_no1 so ao tp bo sn sc an ac tn tc bn bc s a t b l r V x ss y sa z st u sb l1 l2 r1 r2 h0
  have hx := fun V (x : Rd V so sn s) (y : Rd V ao an a) => one_weak so ao sn sc an ac s a l V x ss y sa l1 l2
  have hy := fun V (x : Rd V tp tn t) (y : Rd V bo bn b) => one_weak tp bo tn tc bn bc t b r V x st y sb r1 r2
  have t1 : (oneE s a != 0) = true := by unfold oneE; rw [if_neg h0]; rfl
  skip
  clear h0
  generalize oneE s a = E1 at *
  generalize oneE t b = E2 at *
  go_enter Try.func4, Try.ntmps4
  go_wp2_with (first
    | (go_at_call 9; refine (begun4_any _).mono ?_; rintro e W1 ⟨rfl, k1⟩; have I1 := I0.below k1; have I1' := I1; obtain ⟨p0, p1, p2, p3, _, _, _, _, _⟩ := I1')
    | (go_at_call 16; refine (htw _ I1.s I1.a I1.t I1.b).mono ?_; rintro e W2 ⟨rfl, k2⟩; have I2 := (I1.below k2).below (box_below W2 (.cells #[.slice none 0 0, .slice none 0 0, .slice none 0 0, .slice none 0 0, .slice none 0 0, .slice none 0 0, .slice none 0 0] 42)); have I2' := I2; obtain ⟨g0, g1, g2, g3, _, _, _, _, _⟩ := I2')
    | (go_at_call 10; (with_reducible refine (hx _ I2.s I2.a).mono ?_); rintro e W3 ⟨q0, m0, d0, q1, m1, d1, q2, m2, d2, q3, m3, d3, rfl, k3⟩; have I3 := (I2.below k3).below (box_below W3 (.cells #[.slice q0 m0 d0, .slice q1 m1 d1, .slice q2 m2 d2, .slice q3 m3 d3] 29)); have I3' := I3; obtain ⟨f0, f1, f2, f3, _, _, _, _, _⟩ := I3')
    | (go_at_call 10; (with_reducible refine (hy _ I3.t I3.b).mono ?_); rintro e W4 ⟨v0, i0, j0, v1, i1, j1, v2, i2, j2, v3, i3, j3, rfl, k4⟩; have I4 := (I3.below k4).below (box_below W4 (.cells #[.slice v0 i0 j0, .slice v1 i1 j1, .slice v2 i2 j2, .slice v3 i3 j3] 29))))
  go_ret
  exact ⟨rfl, I4.bel⟩

set_option maxHeartbeats 8000000 in
set_option maxRecDepth 20000 in
theorem pairs_no2 (so ao tp bo : Option Addr) (sn sc an ac tn tc bn bc : Nat) (s a t b : List Int) (l r : Int) (w : World) (hs : Rd w so sn s) (ss : Sl so sn sc) (ha : Rd w ao an a) (sa : Sl ao an ac) (ht : Rd w tp tn t) (st : Sl tp tn tc) (hb : Rd w bo bn b) (sb : Sl bo bn bc) (l1 : -9223372036854775808 ≤ l) (l2 : l ≤ 9223372036854775807) (r1 : -9223372036854775808 ≤ r) (r2 : r ≤ 9223372036854775807) (h0 : mayA s a = 0) (h1 : mayA t b ≠ 0) :
    Calls Try.prog 4 #[.agg #[.slice so sn sc, .slice ao an ac], .agg #[.slice tp tn tc, .slice bo bn bc], .int .i64 l, .int .i64 r] w fun e w' => e = .returned (.bool true) ∧ Below w.heap.size w w' := by
  have I0 := xy_start w so sn sc ao an ac tp tn tc bo bn bc s a t b hs ha ht hb
  have htw := fun V (x : Rd V so sn s) (y : Rd V ao an a) (z : Rd V tp tn t) (u : Rd V bo bn b) => two_no2 so ao tp bo sn sc an ac tn tc bn bc s a t b l r V x ss y sa z st u sb l1 l2 r1 r2 h0 h1
  have hx := fun V (x : Rd V so sn s) (y : Rd V ao an a) => one_weak so ao sn sc an ac s a l V x ss y sa l1 l2
  have hy := fun V (x : Rd V tp tn t) (y : Rd V bo bn b) => one_weak tp bo tn tc bn bc t b r V x st y sb r1 r2
  have t0 : oneE s a = 0 := if_pos h0
  have t1 : (oneE t b != 0) = true := by unfold oneE; rw [if_neg h1]; rfl
  rw [t0] at hx
  clear h0 h1 t0
  generalize oneE t b = E2 at *
  skip
  go_enter Try.func4, Try.ntmps4
  go_wp2_with (first
    | (go_at_call 9; refine (begun4_any _).mono ?_; rintro e W1 ⟨rfl, k1⟩; have I1 := I0.below k1; have I1' := I1; obtain ⟨p0, p1, p2, p3, _, _, _, _, _⟩ := I1')
    | (go_at_call 16; refine (htw _ I1.s I1.a I1.t I1.b).mono ?_; rintro e W2 ⟨rfl, k2⟩; have I2 := (I1.below k2).below (box_below W2 (.cells #[.slice none 0 0, .slice none 0 0, .slice none 0 0, .slice none 0 0, .slice none 0 0, .slice none 0 0, .slice none 0 0] 42)); have I2' := I2; obtain ⟨g0, g1, g2, g3, _, _, _, _, _⟩ := I2')
    | (go_at_call 10; (with_reducible refine (hx _ I2.s I2.a).mono ?_); rintro e W3 ⟨q0, m0, d0, q1, m1, d1, q2, m2, d2, q3, m3, d3, rfl, k3⟩; have I3 := (I2.below k3).below (box_below W3 (.cells #[.slice q0 m0 d0, .slice q1 m1 d1, .slice q2 m2 d2, .slice q3 m3 d3] 29)); have I3' := I3; obtain ⟨f0, f1, f2, f3, _, _, _, _, _⟩ := I3')
    | (go_at_call 10; (with_reducible refine (hy _ I3.t I3.b).mono ?_); rintro e W4 ⟨v0, i0, j0, v1, i1, j1, v2, i2, j2, v3, i3, j3, rfl, k4⟩; have I4 := (I3.below k4).below (box_below W4 (.cells #[.slice v0 i0 j0, .slice v1 i1 j1, .slice v2 i2 j2, .slice v3 i3 j3] 29))))
  go_ret
  exact ⟨rfl, I4.bel⟩
end Go.Proofs.Ytjllmfahmlfljaa
