
/- Contract of package atom's Dyad: where it refuses. -/

import Derived.Test.YthncgocjegalhaaT2

import Derived.Test.YthncgocjegalhaaC9

namespace Go.Proofs.Ythncgocjegalhaa

open Go.RowKit

set_option linter.unusedVariables false

/-- Two arrays in their boxes, and a third box for the answer. -/
structure Dy (w W : World) (so : Option Addr) (sn sc : Nat) (ao : Option Addr) (an ac : Nat) (to : Option Addr) (tn tc : Nat) (bo : Option Addr) (bn bc : Nat) (sx ax sy ay : List Int) : Prop where
  c0 : W.cell? ⟨w.heap.size, 0, none⟩ = some (.slice so sn sc)
  c1 : W.cell? ⟨w.heap.size, 1, none⟩ = some (.slice ao an ac)
  d0 : W.cell? ⟨w.heap.size + 1, 0, none⟩ = some (.slice to tn tc)
  d1 : W.cell? ⟨w.heap.size + 1, 1, none⟩ = some (.slice bo bn bc)
  r : W.heap[w.heap.size + 1 + 1]? = some (.cells #[.slice none 0 0, .slice none 0 0] 36 (0, 0))
  s : Rd W so sn sx
  a : Rd W ao an ax
  t : Rd W to tn sy
  b : Rd W bo bn ay
  bel : Below w.heap.size w W
theorem Dy.below {w W W' : World} {so : Option Addr} {sn sc : Nat} {ao : Option Addr} {an ac : Nat} {to : Option Addr} {tn tc : Nat} {bo : Option Addr} {bn bc : Nat} {sx ax sy ay : List Int} {B : Nat} (h : Dy w W so sn sc ao an ac to tn tc bo bn bc sx ax sy ay) (k : Below B W W') (hB : W.heap.size ≤ B) : Dy w W' so sn sc ao an ac to tn tc bo bn bc sx ax sy ay := by
  have l0 := World.block_lt_of_cell? W _ h.c0
  have l1 := World.block_lt_of_cell? W _ h.d0
  have l2 := (Array.getElem?_eq_some_iff.1 h.r).1
  exact ⟨(k.cell (p := ⟨w.heap.size, 0, none⟩) (Nat.lt_of_lt_of_le l0 hB)).trans h.c0, (k.cell (p := ⟨w.heap.size, 1, none⟩) (Nat.lt_of_lt_of_le l0 hB)).trans h.c1, (k.cell (p := ⟨w.heap.size + 1, 0, none⟩) (Nat.lt_of_lt_of_le l1 hB)).trans h.d0, (k.cell (p := ⟨w.heap.size + 1, 1, none⟩) (Nat.lt_of_lt_of_le l1 hB)).trans h.d1, (k.block _ (Nat.lt_of_lt_of_le l2 hB)).trans h.r,
    h.s.below k hB, h.a.below k hB, h.t.below k hB, h.b.below k hB, h.bel.trans (k.mono (Nat.le_trans h.bel.size hB))⟩
theorem dy_start (w : World) (so : Option Addr) (sn sc : Nat) (ao : Option Addr) (an ac : Nat) (to : Option Addr) (tn tc : Nat) (bo : Option Addr) (bn bc : Nat) (sx ax sy ay : List Int) (h1 : Rd w so sn sx) (h2 : Rd w ao an ax) (h3 : Rd w to tn sy) (h4 : Rd w bo bn ay) :
    Dy w (((w.alloc (.cells #[.slice so sn sc, .slice ao an ac] 36)).alloc (.cells #[.slice to tn tc, .slice bo bn bc] 36)).alloc (.cells #[.slice none 0 0, .slice none 0 0] 36)) so sn sc ao an ac to tn tc bo bn bc sx ax sy ay := by
  have t := two_boxes w so ao to bo sn sc an ac tn tc bn bc
  have b1 := allocNew ((w.alloc (.cells #[.slice so sn sc, .slice ao an ac] 36)).alloc (.cells #[.slice to tn tc, .slice bo bn bc] 36)) (.cells #[.slice none 0 0, .slice none 0 0] 36)
  have k := box_below ((w.alloc (.cells #[.slice so sn sc, .slice ao an ac] 36)).alloc (.cells #[.slice to tn tc, .slice bo bn bc] 36)) (.cells #[.slice none 0 0, .slice none 0 0] 36)
  have u := t.below k
  rw [World.size_alloc, World.size_alloc] at b1
  exact ⟨u.s0, u.a0, u.s1, u.a1, b1, h1.below u.bel (Nat.le_refl _), h2.below u.bel (Nat.le_refl _), h3.below u.bel (Nat.le_refl _), h4.below u.bel (Nat.le_refl _), u.bel⟩

/-- How many atoms there are, and how many places of the longer shape lie below one of each side. -/
def dyN (sx sy : List Int) : Nat := (pr (agrL sx sy)).toNat
def dyB (sx sy s : List Int) : Nat := (pr ((agrL sx sy).drop s.length)).toNat
def dyF (op : Int) (sx ax sy ay : List Int) (i : Nat) : Int := Nm.dN op (nth ax (i / dyB sx sy sx)) (nth ay (i / dyB sx sy sy))
def dyG (op : Int) (sx ax sy ay : List Int) (i : Nat) : Int := Nm.dE op (nth ax (i / dyB sx sy sx)) (nth ay (i / dyB sx sy sy))
def dyL (op : Int) (sx ax sy ay : List Int) : List Int := (List.range (dyN sx sy)).map (dyF op sx ax sy ay)
def dyR (op : Int) (sx ax sy ay : List Int) : List Int := (List.range (dyN sx sy)).map (dyG op sx ax sy ay)
theorem nth_range {n j : Nat} {f : Nat → Int} (h : j < n) : nth ((List.range n).map f) j = f j := by
  rw [nth_lt (by simpa using h)]; simp
/-- What Dyad answers: the error, the shape, the atoms. -/
def ddE (op : Int) (sx ax sy ay : List Int) : Int := if mayA sx ax ≠ 0 ∨ mayA sy ay ≠ 0 then 1 else if lck (Nm.dE op 0 0) = true then Nm.dE op 0 0 else if agrB sx sy = true then fe (dyR op sx ax sy ay) else 11
def ddS (op : Int) (sx ax sy ay : List Int) : List Int := onOk (ddE op sx ax sy ay) (agrL sx sy)
def ddA (op : Int) (sx ax sy ay : List Int) : List Int := onOk (ddE op sx ax sy ay) (dyL op sx ax sy ay)

set_option maxHeartbeats 1000000 in
theorem dyad_bad (op : Int) (so ao to bo : Option Addr) (sn sc an ac tn tc bn bc : Nat) (sx ax sy ay : List Int) (w : World) (h1 : Rd w so sn sx) (h2 : Rd w ao an ax) (h3 : Rd w to tn sy) (h4 : Rd w bo bn ay) (h0 : mayA sx ax ≠ 0 ∨ mayA sy ay ≠ 0) :
    Calls Try.prog 28 #[.int .i64 op, .agg #[.slice so sn sc, .slice ao an ac], .agg #[.slice to tn tc, .slice bo bn bc]] w fun e w' => e = .returned (.tuple #[.agg #[.slice none 0 0, .slice none 0 0], .int .i64 1]) ∧ Below w.heap.size w w' := by
  have I0 := dy_start w so sn sc ao an ac to tn tc bo bn bc sx ax sy ay h1 h2 h3 h4
  have hm := mayA_any so ao sn sc an ac sx ax _ I0.s I0.a
  by_cases c : mayA sx ax = 0
  · have hm2 := fun W (x : Rd W to tn sy) (y : Rd W bo bn ay) => mayA_any to bo tn tc bn bc sy ay W x y
    have c2 : (mayA sy ay != 0) = true := by rcases h0 with h | h; exact absurd c h; simpa using h
    rw [c] at hm
    clear h0 c
    go_enter Try.func28, Try.ntmps28
    go_wp2_with (first
      | (go_at_call 21; (with_reducible refine hm.mono ?_); rintro e w1 ⟨rfl, k1⟩; have I1 := I0.below k1 (Nat.le_refl _); have I1' := I1; obtain ⟨p0, p1, p2, p3, _, _, _, _, _, _⟩ := I1')
      | (go_at_call 21; (with_reducible refine (hm2 _ I1.t I1.b).mono ?_); rintro e w2 ⟨rfl, k2⟩; have I2 := I1.below k2 (Nat.le_refl _); obtain ⟨c0, c1, z0, z1⟩ := box2 I2.r))
    (try simp only [Exit.inBlock, Exit.then])
    refine bodyPost_ret (v := .tuple #[.agg #[.slice none 0 0, .slice none 0 0], .int .i64 1]) (by rw [results_cell_tmp rfl]; go_simp) rfl ?_
    exact ⟨rfl, below_set2 _ _ _ _ I2.bel (by omega) (Nat.le_refl _)⟩
  · have c2 : (mayA sx ax != 0) = true := by simpa using c
    clear h0 c
    go_enter Try.func28, Try.ntmps28
    go_wp2_with (go_at_call 21; (with_reducible refine hm.mono ?_); rintro e w1 ⟨rfl, k1⟩; have I1 := I0.below k1 (Nat.le_refl _); obtain ⟨c0, c1, z0, z1⟩ := box2 I1.r)
    (try simp only [Exit.inBlock, Exit.then])
    refine bodyPost_ret (v := .tuple #[.agg #[.slice none 0 0, .slice none 0 0], .int .i64 1]) (by rw [results_cell_tmp rfl]; go_simp) rfl ?_
    exact ⟨rfl, below_set2 _ _ _ _ I1.bel (by omega) (Nat.le_refl _)⟩

set_option maxHeartbeats 1000000 in
theorem dyad_lack (op : Int) (so ao to bo : Option Addr) (sn sc an ac tn tc bn bc : Nat) (sx ax sy ay : List Int) (w : World) (h1 : Rd w so sn sx) (h2 : Rd w ao an ax) (h3 : Rd w to tn sy) (h4 : Rd w bo bn ay) (h0 : mayA sx ax = 0) (h0' : mayA sy ay = 0) (hk : lck (Nm.dE op 0 0) = true) :
    Calls Try.prog 28 #[.int .i64 op, .agg #[.slice so sn sc, .slice ao an ac], .agg #[.slice to tn tc, .slice bo bn bc]] w fun e w' => e = .returned (.tuple #[.agg #[.slice none 0 0, .slice none 0 0], .int .i64 (Nm.dE op 0 0)]) ∧ Below w.heap.size w w' := by
  have I0 := dy_start w so sn sc ao an ac to tn tc bo bn bc sx ax sy ay h1 h2 h3 h4
  have hm := mayA_any so ao sn sc an ac sx ax _ I0.s I0.a
  have hm2 := fun W (x : Rd W to tn sy) (y : Rd W bo bn ay) => mayA_any to bo tn tc bn bc sy ay W x y
  rw [h0] at hm
  rw [h0'] at hm2
  have hmo := fun W => dyadOf_no op W hk
  have hne : (Nm.dE op 0 0 != 0) = true := by simpa using lck_ne hk
  clear h0 hk h0'
  generalize Nm.dE op 0 0 = E at *
  go_enter Try.func28, Try.ntmps28
  go_wp2_with (first
    | (go_at_call 21; (with_reducible refine hm.mono ?_); rintro e w1 ⟨rfl, k1⟩; have I1 := I0.below k1 (Nat.le_refl _); have I1' := I1; obtain ⟨p0, p1, p2, p3, _, _, _, _, _, _⟩ := I1')
    | (go_at_call 21; (with_reducible refine (hm2 _ I1.t I1.b).mono ?_); rintro e w2 ⟨rfl, k2⟩; have I2 := I1.below k2 (Nat.le_refl _))
    | (go_at_call 42; refine (hmo _).mono ?_; rintro e w3 ⟨rfl, k3⟩; have I3 := I2.below k3 (Nat.le_refl _); obtain ⟨c0, c1, z0, z1⟩ := box2 I3.r))
  (try simp only [Exit.inBlock, Exit.then])
  refine bodyPost_ret (v := .tuple #[.agg #[.slice none 0 0, .slice none 0 0], .int .i64 E]) (by rw [results_cell_tmp rfl]; go_simp) rfl ?_
  exact ⟨rfl, below_set2 _ _ _ _ I3.bel (by omega) (Nat.le_refl _)⟩

set_option maxHeartbeats 2000000 in
theorem dyad_len (op : Int) (so ao to bo : Option Addr) (sn sc an ac tn tc bn bc : Nat) (sx ax sy ay : List Int) (w : World) (h1 : Rd w so sn sx) (h2 : Rd w ao an ax) (h3 : Rd w to tn sy) (h4 : Rd w bo bn ay) (hs : Sl so sn sc) (ht : Sl to tn tc) (h0 : mayA sx ax = 0) (h0' : mayA sy ay = 0) (hk : lck (Nm.dE op 0 0) = false) (ha : agrB sx sy = false) :
    Calls Try.prog 28 #[.int .i64 op, .agg #[.slice so sn sc, .slice ao an ac], .agg #[.slice to tn tc, .slice bo bn bc]] w fun e w' => e = .returned (.tuple #[.agg #[.slice none 0 0, .slice none 0 0], .int .i64 11]) ∧ Below w.heap.size w w' := by
  have I0 := dy_start w so sn sc ao an ac to tn tc bo bn bc sx ax sy ay h1 h2 h3 h4
  have hm := mayA_any so ao sn sc an ac sx ax _ I0.s I0.a
  have hm2 := fun W (x : Rd W to tn sy) (y : Rd W bo bn ay) => mayA_any to bo tn tc bn bc sy ay W x y
  rw [h0] at hm
  rw [h0'] at hm2
  have hmo := fun W => dyadOf_ok op W hk
  dsimp only [dFn] at hmo
  have hag := fun W (x : Rd W so sn sx) (y : Rd W to tn sy) => agree_any so to sn tn sc tc sx sy W x y hs ht
  rw [show agrE sx sy = 11 by unfold agrE; rw [if_neg (by rw [ha]; decide)]] at hag
  clear h0 hk h0' ha
  go_enter Try.func28, Try.ntmps28
  go_wp2_with (first
    | (go_at_call 21; (with_reducible refine hm.mono ?_); rintro e w1 ⟨rfl, k1⟩; have I1 := I0.below k1 (Nat.le_refl _); have I1' := I1; obtain ⟨p0, p1, p2, p3, _, _, _, _, _, _⟩ := I1')
    | (go_at_call 21; (with_reducible refine (hm2 _ I1.t I1.b).mono ?_); rintro e w2 ⟨rfl, k2⟩; have I2 := I1.below k2 (Nat.le_refl _))
    | (go_at_call 42; refine (hmo _).mono ?_; rintro e w3 ⟨rfl, hg, k3⟩; have I3 := I2.below k3 (Nat.le_refl _); have I3' := I3; obtain ⟨q0, q1, q2, q3, _, _, _, _, _, _⟩ := I3')
    | (go_at_call 43; refine (hag _ I3.s I3.t).mono ?_; rintro e w4 ⟨lo, ln, lc, rfl, fl, k4⟩; have I4 := I3.below k4 (Nat.le_refl _); obtain ⟨c0, c1, z0, z1⟩ := box2 I4.r))
  (try simp only [Exit.inBlock, Exit.then])
  refine bodyPost_ret (v := .tuple #[.agg #[.slice none 0 0, .slice none 0 0], .int .i64 11]) (by rw [results_cell_tmp rfl]; go_simp) rfl ?_
  exact ⟨rfl, below_set2 _ _ _ _ I4.bel (by omega) (Nat.le_refl _)⟩
end Go.Proofs.Ythncgocjegalhaa
