
/- The statement AtomLengths, walked. -/

import Derived.Test.YtjllmfahmlfljabT5
import Derived.Test.YtjllmfahmlfljabRefs2


namespace Go.Proofs.Ytjllmfahmlfljab

open Go.RowKit Go.Deep

set_option linter.unusedVariables false

/-- Two arrays in their boxes. -/
structure Lg (w W : World) (so : Option Addr) (sn sc : Nat) (ao : Option Addr) (an ac : Nat) (to : Option Addr) (tn tc : Nat) (bo : Option Addr) (bn bc : Nat) (sx ax sy ay : List Int) : Prop where
  c0 : W.cell? ⟨w.heap.size, 0, none⟩ = some (.slice so sn sc)
  c1 : W.cell? ⟨w.heap.size, 1, none⟩ = some (.slice ao an ac)
  d0 : W.cell? ⟨w.heap.size + 1, 0, none⟩ = some (.slice to tn tc)
  d1 : W.cell? ⟨w.heap.size + 1, 1, none⟩ = some (.slice bo bn bc)
  s : Rd W so sn sx
  a : Rd W ao an ax
  t : Rd W to tn sy
  b : Rd W bo bn ay
  bel : Below w.heap.size w W
theorem Lg.below {w W W' : World} {so : Option Addr} {sn sc : Nat} {ao : Option Addr} {an ac : Nat} {to : Option Addr} {tn tc : Nat} {bo : Option Addr} {bn bc : Nat} {sx ax sy ay : List Int} (h : Lg w W so sn sc ao an ac to tn tc bo bn bc sx ax sy ay) (k : Below W.heap.size W W') : Lg w W' so sn sc ao an ac to tn tc bo bn bc sx ax sy ay := by
  have l0 := World.block_lt_of_cell? W _ h.c0
  have l1 := World.block_lt_of_cell? W _ h.d0
  exact ⟨(k.cell (p := ⟨w.heap.size, 0, none⟩) l0).trans h.c0, (k.cell (p := ⟨w.heap.size, 1, none⟩) l0).trans h.c1, (k.cell (p := ⟨w.heap.size + 1, 0, none⟩) l1).trans h.d0, (k.cell (p := ⟨w.heap.size + 1, 1, none⟩) l1).trans h.d1,
    h.s.below k (Nat.le_refl _), h.a.below k (Nat.le_refl _), h.t.below k (Nat.le_refl _), h.b.below k (Nat.le_refl _), h.bel.trans (k.mono h.bel.size)⟩
theorem lg_start (w : World) (so : Option Addr) (sn sc : Nat) (ao : Option Addr) (an ac : Nat) (to : Option Addr) (tn tc : Nat) (bo : Option Addr) (bn bc : Nat) (sx ax sy ay : List Int) (h1 : Rd w so sn sx) (h2 : Rd w ao an ax) (h3 : Rd w to tn sy) (h4 : Rd w bo bn ay) :
    Lg w ((w.alloc (.cells #[.slice so sn sc, .slice ao an ac] 25)).alloc (.cells #[.slice to tn tc, .slice bo bn bc] 25)) so sn sc ao an ac to tn tc bo bn bc sx ax sy ay := by
  have u := two_boxes w so ao to bo sn sc an ac tn tc bn bc
  exact ⟨u.s0, u.a0, u.s1, u.a1, h1.below u.bel (Nat.le_refl _), h2.below u.bel (Nat.le_refl _), h3.below u.bel (Nat.le_refl _), h4.below u.bel (Nat.le_refl _), u.bel⟩

/-- Are the first k lengths alike? -/
def agK (sx sy : List Int) (k : Nat) : Bool := decide (∀ j, j < k → nth sx j = nth sy j)
theorem agK_zero (sx sy : List Int) : agK sx sy 0 = true := by unfold agK; simp
theorem agK_yes {sx sy : List Int} {k : Nat} (h : agK sx sy k = true) (e : nth sx k = nth sy k) : agK sx sy (k + 1) = true := by
  unfold agK at *
  simp only [decide_eq_true_eq] at *
  intro j hj
  rcases Nat.lt_succ_iff_lt_or_eq.1 hj with h' | h'
  · exact h j h'
  · rw [h']; exact e
theorem agK_no {sx sy : List Int} {k : Nat} (e : nth sx k ≠ nth sy k) : agK sx sy (k + 1) = false := by
  unfold agK
  simp only [decide_eq_false_iff_not]
  exact fun h => e (h k (by omega))
theorem agK_stay {sx sy : List Int} {k : Nat} (h : agK sx sy k = false) : agK sx sy (k + 1) = false := by
  unfold agK at *
  simp only [decide_eq_false_iff_not] at *
  exact fun g => h fun j hj => g j (by omega)
theorem agK_end {sx sy : List Int} {k : Nat} (h1 : k ≤ sx.length) (h2 : k ≤ sy.length) (h3 : k = sx.length ∨ k = sy.length) : agrB sx sy = agK sx sy k := by
  cases h : agK sx sy k
  · unfold agK at h
    simp only [decide_eq_false_iff_not] at h
    obtain ⟨j, hj⟩ : ∃ j, ¬ (j < k → nth sx j = nth sy j) := Classical.not_forall.1 h
    obtain ⟨hj1, hj2⟩ := Classical.not_imp.1 hj
    exact agr_no (k := j) (by omega) (by omega) hj2
  · unfold agK at h
    simp only [decide_eq_true_eq] at h
    exact agr_yes fun j g1 g2 => h j (by omega)
theorem agrL_x {sx sy : List Int} (h : agrB sx sy = true) (hl : sy.length ≤ sx.length) : agrL sx sy = sx := by
  obtain ⟨t1, t2, t3⟩ := agr_true h
  have : (agrL sx sy).length = sx.length := by rw [t3]; exact Nat.max_eq_left hl
  rw [← this, List.take_length] at t1
  exact t1
theorem agrL_y {sx sy : List Int} (h : agrB sx sy = true) (hl : sx.length < sy.length) : agrL sx sy = sy := by
  obtain ⟨t1, t2, t3⟩ := agr_true h
  have : (agrL sx sy).length = sy.length := by rw [t3]; exact Nat.max_eq_right (by omega)
  rw [← this, List.take_length] at t2
  exact t2
theorem fe_er : ∀ (l : List Int), (∀ e ∈ l, Nm.Er e) → Nm.Er (fe l)
  | [], _ => Nm.er0
  | e :: r, h => by
    unfold fe
    exact Nm.ite_ind Nm.Er (fe_er r fun x hx => h x (by simp [hx])) (h e (by simp))
theorem er_len {e : Int} (h : Nm.Er e) : e ≠ 11 := by rcases h with h | h | h | h | h <;> omega
theorem dyR_er (op : Int) (sx ax sy ay : List Int) : Nm.Er (fe (dyR op sx ax sy ay)) := by
  refine fe_er _ fun e he => ?_
  unfold dyR at he
  obtain ⟨i, _, rfl⟩ := List.mem_map.1 he
  exact Nm.dE_is _ _ _
theorem dyR_none (op : Int) (sx ax sy ay : List Int) (h : dyN sx sy = 0) : fe (dyR op sx ax sy ay) = 0 ∧ dyL op sx ax sy ay = [] := by
  unfold dyR dyL; rw [h]; exact ⟨rfl, rfl⟩
theorem dyL_len (op : Int) (sx ax sy ay : List Int) : (dyL op sx ax sy ay).length = dyN sx sy := by unfold dyL; simp
theorem may_dy {op : Int} {sx ax sy ay : List Int} (hm : mayF (agrL sx sy) = 0) : mayA (agrL sx sy) (dyL op sx ax sy ay) = 0 := by
  have := prF_bd hm
  exact mayA_ok hm (by rw [dyL_len]; unfold dyN; omega)

theorem eq_nil (W : World) (o1 o2 : Option Addr) (n1 c1 n2 c2 : Nat) (h : Rd W o1 n1 []) (g : Rd W o2 n2 []) : Calls Try.prog 8 #[.agg #[.slice o1 n1 c1, .slice o2 n2 c2], .agg #[.slice none 0 0, .slice none 0 0]] W fun e w' => e = .returned (.bool true) ∧ Below W.heap.size W w' := by
  have := eq_any o1 o2 none none n1 c1 n2 c2 0 0 0 0 [] [] [] [] W h g (Rd.nil W) (Rd.nil W)
  rwa [eqA_refl] at this
theorem eq_long (W : World) (o1 o2 lo : Option Addr) (n1 c1 n2 c2 ln lc : Nat) (L : List Int) (h : Rd W o1 n1 L) (g : Rd W o2 n2 []) (k : Rd W lo ln L) : Calls Try.prog 8 #[.agg #[.slice o1 n1 c1, .slice o2 n2 c2], .agg #[.slice lo ln lc, .slice none 0 0]] W fun e w' => e = .returned (.bool true) ∧ Below W.heap.size W w' := by
  have := eq_any o1 o2 lo none n1 c1 n2 c2 ln lc 0 0 L [] L [] W h g k (Rd.nil W)
  rwa [eqA_refl] at this
theorem eq_shapes (W : World) (o1 lo : Option Addr) (n1 c1 ln lc : Nat) (L : List Int) (h : Rd W o1 n1 L) (k : Rd W lo ln L) : Calls Try.prog 8 #[.agg #[.slice o1 n1 c1, .slice none 0 0], .agg #[.slice lo ln lc, .slice none 0 0]] W fun e w' => e = .returned (.bool true) ∧ Below W.heap.size W w' := by
  have := eq_any o1 none lo none n1 c1 0 0 ln lc 0 0 L [] L [] W h (Rd.nil W) k (Rd.nil W)
  rwa [eqA_refl] at this

set_option maxHeartbeats 1000000 in
theorem len_has (op : Int) (so ao to bo : Option Addr) (sn sc an ac tn tc bn bc : Nat) (sx ax sy ay : List Int) (w : World) (h1 : Rd w so sn sx) (h2 : Rd w ao an ax) (h3 : Rd w to tn sy) (h4 : Rd w bo bn ay) (c : hasB op 2 = false) :
    Calls Try.prog 3 #[.int .i64 op, .agg #[.slice so sn sc, .slice ao an ac], .agg #[.slice to tn tc, .slice bo bn bc]] w fun e w' => e = .returned (.bool true) ∧ Below w.heap.size w w' := by
  have I0 := lg_start w so sn sc ao an ac to tn tc bo bn bc sx ax sy ay h1 h2 h3 h4
  have hh := fun W => has_any op 2 W
  have hm := fun W (x : Rd W so sn sx) (y : Rd W ao an ax) => mayA_any so ao sn sc an ac sx ax W x y
  have hm2 := fun W (x : Rd W to tn sy) (y : Rd W bo bn ay) => mayA_any to bo tn tc bn bc sy ay W x y
  rw [c] at hh
  go_enter Try.func3, Try.ntmps3
  go_wp2_with (first | (go_at_call 4; refine (begun5_any _).mono ?_; rintro e W1 ⟨rfl, k1⟩; have I1 := I0.below k1) | (go_at_call 5; refine (hh _).mono ?_; rintro e W2 ⟨rfl, k2⟩; have I2 := I1.below k2; have I2' := I2; obtain ⟨p0, p1, p2, p3, _, _, _, _, _⟩ := I2'))
  go_ret
  exact ⟨rfl, I2.bel⟩
set_option maxHeartbeats 1000000 in
theorem len_mx (op : Int) (so ao to bo : Option Addr) (sn sc an ac tn tc bn bc : Nat) (sx ax sy ay : List Int) (w : World) (h1 : Rd w so sn sx) (h2 : Rd w ao an ax) (h3 : Rd w to tn sy) (h4 : Rd w bo bn ay) (c : hasB op 2 = true) (m : mayA sx ax ≠ 0) :
    Calls Try.prog 3 #[.int .i64 op, .agg #[.slice so sn sc, .slice ao an ac], .agg #[.slice to tn tc, .slice bo bn bc]] w fun e w' => e = .returned (.bool true) ∧ Below w.heap.size w w' := by
  have I0 := lg_start w so sn sc ao an ac to tn tc bo bn bc sx ax sy ay h1 h2 h3 h4
  have hh := fun W => has_any op 2 W
  have hm := fun W (x : Rd W so sn sx) (y : Rd W ao an ax) => mayA_any so ao sn sc an ac sx ax W x y
  have hm2 := fun W (x : Rd W to tn sy) (y : Rd W bo bn ay) => mayA_any to bo tn tc bn bc sy ay W x y
  rw [c] at hh
  have m' : (mayA sx ax != 0) = true := by simpa using m
  clear m
  go_enter Try.func3, Try.ntmps3
  go_wp2_with (first | (go_at_call 4; refine (begun5_any _).mono ?_; rintro e W1 ⟨rfl, k1⟩; have I1 := I0.below k1) | (go_at_call 5; refine (hh _).mono ?_; rintro e W2 ⟨rfl, k2⟩; have I2 := I1.below k2; have I2' := I2; obtain ⟨p0, p1, p2, p3, _, _, _, _, _⟩ := I2') | (go_at_call 6; (with_reducible refine (hm _ I2.s I2.a).mono ?_); rintro e W3 ⟨rfl, k3⟩; have I3 := I2.below k3; have I3' := I3; obtain ⟨q0, q1, q2, q3, _, _, _, _, _⟩ := I3'))
  go_ret
  exact ⟨rfl, I3.bel⟩
set_option maxHeartbeats 1000000 in
theorem len_my (op : Int) (so ao to bo : Option Addr) (sn sc an ac tn tc bn bc : Nat) (sx ax sy ay : List Int) (w : World) (h1 : Rd w so sn sx) (h2 : Rd w ao an ax) (h3 : Rd w to tn sy) (h4 : Rd w bo bn ay) (c : hasB op 2 = true) (m0 : mayA sx ax = 0) (m : mayA sy ay ≠ 0) :
    Calls Try.prog 3 #[.int .i64 op, .agg #[.slice so sn sc, .slice ao an ac], .agg #[.slice to tn tc, .slice bo bn bc]] w fun e w' => e = .returned (.bool true) ∧ Below w.heap.size w w' := by
  have I0 := lg_start w so sn sc ao an ac to tn tc bo bn bc sx ax sy ay h1 h2 h3 h4
  have hh := fun W => has_any op 2 W
  have hm := fun W (x : Rd W so sn sx) (y : Rd W ao an ax) => mayA_any so ao sn sc an ac sx ax W x y
  have hm2 := fun W (x : Rd W to tn sy) (y : Rd W bo bn ay) => mayA_any to bo tn tc bn bc sy ay W x y
  rw [c] at hh
  have m' : (mayA sy ay != 0) = true := by simpa using m
  rw [m0] at hm
  clear m m0
  go_enter Try.func3, Try.ntmps3
  go_wp2_with (first | (go_at_call 4; refine (begun5_any _).mono ?_; rintro e W1 ⟨rfl, k1⟩; have I1 := I0.below k1) | (go_at_call 5; refine (hh _).mono ?_; rintro e W2 ⟨rfl, k2⟩; have I2 := I1.below k2; have I2' := I2; obtain ⟨p0, p1, p2, p3, _, _, _, _, _⟩ := I2') | (go_at_call 6; (with_reducible refine (hm _ I2.s I2.a).mono ?_); rintro e W3 ⟨rfl, k3⟩; have I3 := I2.below k3; have I3' := I3; obtain ⟨q0, q1, q2, q3, _, _, _, _, _⟩ := I3') | (go_at_call 6; (with_reducible refine (hm2 _ I3.t I3.b).mono ?_); rintro e W4 ⟨rfl, k4⟩; have I4 := I3.below k4; have I4' := I4; obtain ⟨r0, r1, r2, r3, _, _, _, _, _⟩ := I4'))
  go_ret
  exact ⟨rfl, I4.bel⟩
end Go.Proofs.Ytjllmfahmlfljab
