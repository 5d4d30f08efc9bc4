
/- The statement AtomEach, walked: where the second array may not be; and what is used of lists. -/

import Derived.Test.YtjllmfahmlfljaaAt
import Derived.Test.YtjllmfahmlfljaaT5

namespace Go.Proofs.Ytjllmfahmlfljaa

open Go.RowKit Go.Deep

set_option linter.unusedVariables false

theorem agr_no {a b : List Int} {k : Nat} (h1 : k < a.length) (h2 : k < b.length) (hne : nth a k ≠ nth b k) : agrB a b = false := by
  unfold agrB
  split
  · rename_i c
    refine eqB_no (k := k) h2 ?_
    rw [nth_take h2]; exact fun e => hne e.symm
  · refine eqB_no (k := k) h1 ?_
    rw [nth_take h1]; exact hne
theorem agr_yes {a b : List Int} (h : ∀ k, k < a.length → k < b.length → nth a k = nth b k) : agrB a b = true := by
  unfold agrB
  split
  · rename_i c
    refine eqB_yes (by rw [List.length_take]; omega) fun k hk => ?_
    rw [nth_take hk]; exact (h k (by omega) hk).symm
  · refine eqB_yes (by rw [List.length_take]; omega) fun k hk => ?_
    rw [nth_take hk]; exact h k hk (by omega)

end Go.Proofs.Ytjllmfahmlfljaa



namespace Go.Proofs.Ytjllmfahmlfljaa

open Go.RowKit Go.Deep

set_option linter.unusedVariables false

/-- Two arrays in their boxes. -/
structure Lg (w W : World) (so : Option Addr) (sn sc : Nat) (ao : Option Addr) (an ac : Nat) (to : Option Addr) (tn tc : Nat) (bo : Option Addr) (bn bc : Nat) (sx ax sy ay : List Int) : Prop where
  c0 : W.cell? ⟨w.heap.size, 0, none⟩ = some (.slice so sn sc)
  c1 : W.cell? ⟨w.heap.size, 1, none⟩ = some (.slice ao an ac)
  d0 : W.cell? ⟨w.heap.size + 1, 0, none⟩ = some (.slice to tn tc)
  d1 : W.cell? ⟨w.heap.size + 1, 1, none⟩ = some (.slice bo bn bc)
  s : Rd W so sn sx
  a : Rd W ao an ax
  t : Rd W to tn sy
  b : Rd W bo bn ay
  bel : Below w.heap.size w W
theorem Lg.below {w W W' : World} {so : Option Addr} {sn sc : Nat} {ao : Option Addr} {an ac : Nat} {to : Option Addr} {tn tc : Nat} {bo : Option Addr} {bn bc : Nat} {sx ax sy ay : List Int} (h : Lg w W so sn sc ao an ac to tn tc bo bn bc sx ax sy ay) (k : Below W.heap.size W W') : Lg w W' so sn sc ao an ac to tn tc bo bn bc sx ax sy ay := by
  have l0 := World.block_lt_of_cell? W _ h.c0
  have l1 := World.block_lt_of_cell? W _ h.d0
  exact ⟨(k.cell (p := ⟨w.heap.size, 0, none⟩) l0).trans h.c0, (k.cell (p := ⟨w.heap.size, 1, none⟩) l0).trans h.c1, (k.cell (p := ⟨w.heap.size + 1, 0, none⟩) l1).trans h.d0, (k.cell (p := ⟨w.heap.size + 1, 1, none⟩) l1).trans h.d1,
    h.s.below k (Nat.le_refl _), h.a.below k (Nat.le_refl _), h.t.below k (Nat.le_refl _), h.b.below k (Nat.le_refl _), h.bel.trans (k.mono h.bel.size)⟩
theorem lg_start (w : World) (so : Option Addr) (sn sc : Nat) (ao : Option Addr) (an ac : Nat) (to : Option Addr) (tn tc : Nat) (bo : Option Addr) (bn bc : Nat) (sx ax sy ay : List Int) (h1 : Rd w so sn sx) (h2 : Rd w ao an ax) (h3 : Rd w to tn sy) (h4 : Rd w bo bn ay) :
    Lg w ((w.alloc (.cells #[.slice so sn sc, .slice ao an ac] 25)).alloc (.cells #[.slice to tn tc, .slice bo bn bc] 25)) so sn sc ao an ac to tn tc bo bn bc sx ax sy ay := by
  have u := two_boxes w so ao to bo sn sc an ac tn tc bn bc
  exact ⟨u.s0, u.a0, u.s1, u.a1, h1.below u.bel (Nat.le_refl _), h2.below u.bel (Nat.le_refl _), h3.below u.bel (Nat.le_refl _), h4.below u.bel (Nat.le_refl _), u.bel⟩

/-- Are the first k lengths alike? -/
def agK (sx sy : List Int) (k : Nat) : Bool := decide (∀ j, j < k → nth sx j = nth sy j)
theorem agK_zero (sx sy : List Int) : agK sx sy 0 = true := by unfold agK; simp
theorem agK_yes {sx sy : List Int} {k : Nat} (h : agK sx sy k = true) (e : nth sx k = nth sy k) : agK sx sy (k + 1) = true := by
  unfold agK at *
  simp only [decide_eq_true_eq] at *
  intro j hj
  rcases Nat.lt_succ_iff_lt_or_eq.1 hj with h' | h'
  · exact h j h'
  · rw [h']; exact e
theorem agK_no {sx sy : List Int} {k : Nat} (e : nth sx k ≠ nth sy k) : agK sx sy (k + 1) = false := by
  unfold agK
  simp only [decide_eq_false_iff_not]
  exact fun h => e (h k (by omega))
theorem agK_stay {sx sy : List Int} {k : Nat} (h : agK sx sy k = false) : agK sx sy (k + 1) = false := by
  unfold agK at *
  simp only [decide_eq_false_iff_not] at *
  exact fun g => h fun j hj => g j (by omega)
theorem agK_end {sx sy : List Int} {k : Nat} (h1 : k ≤ sx.length) (h2 : k ≤ sy.length) (h3 : k = sx.length ∨ k = sy.length) : agrB sx sy = agK sx sy k := by
  cases h : agK sx sy k
  · unfold agK at h
    simp only [decide_eq_false_iff_not] at h
    obtain ⟨j, hj⟩ : ∃ j, ¬ (j < k → nth sx j = nth sy j) := Classical.not_forall.1 h
    obtain ⟨hj1, hj2⟩ := Classical.not_imp.1 hj
    exact agr_no (k := j) (by omega) (by omega) hj2
  · unfold agK at h
    simp only [decide_eq_true_eq] at h
    exact agr_yes fun j g1 g2 => h j (by omega)
theorem agrL_x {sx sy : List Int} (h : agrB sx sy = true) (hl : sy.length ≤ sx.length) : agrL sx sy = sx := by
  obtain ⟨t1, t2, t3⟩ := agr_true h
  have : (agrL sx sy).length = sx.length := by rw [t3]; exact Nat.max_eq_left hl
  rw [← this, List.take_length] at t1
  exact t1
theorem agrL_y {sx sy : List Int} (h : agrB sx sy = true) (hl : sx.length < sy.length) : agrL sx sy = sy := by
  obtain ⟨t1, t2, t3⟩ := agr_true h
  have : (agrL sx sy).length = sy.length := by rw [t3]; exact Nat.max_eq_right (by omega)
  rw [← this, List.take_length] at t2
  exact t2
theorem fe_er : ∀ (l : List Int), (∀ e ∈ l, Nm.Er e) → Nm.Er (fe l)
  | [], _ => Nm.er0
  | e :: r, h => by
    unfold fe
    exact Nm.ite_ind Nm.Er (fe_er r fun x hx => h x (by simp [hx])) (h e (by simp))
theorem er_len {e : Int} (h : Nm.Er e) : e ≠ 11 := by rcases h with h | h | h | h | h <;> omega
theorem dyR_er (op : Int) (sx ax sy ay : List Int) : Nm.Er (fe (dyR op sx ax sy ay)) := by
  refine fe_er _ fun e he => ?_
  unfold dyR at he
  obtain ⟨i, _, rfl⟩ := List.mem_map.1 he
  exact Nm.dE_is _ _ _
theorem dyR_none (op : Int) (sx ax sy ay : List Int) (h : dyN sx sy = 0) : fe (dyR op sx ax sy ay) = 0 ∧ dyL op sx ax sy ay = [] := by
  unfold dyR dyL; rw [h]; exact ⟨rfl, rfl⟩
theorem dyL_len (op : Int) (sx ax sy ay : List Int) : (dyL op sx ax sy ay).length = dyN sx sy := by unfold dyL; simp
theorem may_dy {op : Int} {sx ax sy ay : List Int} (hm : mayF (agrL sx sy) = 0) : mayA (agrL sx sy) (dyL op sx ax sy ay) = 0 := by
  have := prF_bd hm
  exact mayA_ok hm (by rw [dyL_len]; unfold dyN; omega)

theorem eq_nil (W : World) (o1 o2 : Option Addr) (n1 c1 n2 c2 : Nat) (h : Rd W o1 n1 []) (g : Rd W o2 n2 []) : Calls Try.prog 34 #[.agg #[.slice o1 n1 c1, .slice o2 n2 c2], .agg #[.slice none 0 0, .slice none 0 0]] W fun e w' => e = .returned (.bool true) ∧ Below W.heap.size W w' := by
  have := eq_any o1 o2 none none n1 c1 n2 c2 0 0 0 0 [] [] [] [] W h g (Rd.nil W) (Rd.nil W)
  rwa [eqA_refl] at this
theorem eq_long (W : World) (o1 o2 lo : Option Addr) (n1 c1 n2 c2 ln lc : Nat) (L : List Int) (h : Rd W o1 n1 L) (g : Rd W o2 n2 []) (k : Rd W lo ln L) : Calls Try.prog 34 #[.agg #[.slice o1 n1 c1, .slice o2 n2 c2], .agg #[.slice lo ln lc, .slice none 0 0]] W fun e w' => e = .returned (.bool true) ∧ Below W.heap.size W w' := by
  have := eq_any o1 o2 lo none n1 c1 n2 c2 ln lc 0 0 L [] L [] W h g k (Rd.nil W)
  rwa [eqA_refl] at this
theorem eq_shapes (W : World) (o1 lo : Option Addr) (n1 c1 ln lc : Nat) (L : List Int) (h : Rd W o1 n1 L) (k : Rd W lo ln L) : Calls Try.prog 34 #[.agg #[.slice o1 n1 c1, .slice none 0 0], .agg #[.slice lo ln lc, .slice none 0 0]] W fun e w' => e = .returned (.bool true) ∧ Below W.heap.size W w' := by
  have := eq_any o1 none lo none n1 c1 0 0 ln lc 0 0 L [] L [] W h (Rd.nil W) k (Rd.nil W)
  rwa [eqA_refl] at this

end Go.Proofs.Ytjllmfahmlfljaa



namespace Go.Proofs.Ytjllmfahmlfljaa

open Go.RowKit Go.Deep

set_option linter.unusedVariables false

/-- The error of the atom ahead. -/
def gK (G : Nat → Int) (k : Nat) : Int := if k = 0 then 0 else G (k - 1)
theorem gK_zero (G : Nat → Int) : gK G 0 = 0 := rfl
theorem gK_succ (G : Nat → Int) (k : Nat) : gK G (k + 1) = G k := rfl

/-- An array in a new box: a shape as it was, and the first k atoms that are wanted. -/
structure Wt (Ww V : World) (to : Option Addr) (tn tc k : Nat) (F G : Nat → Int) : Prop where
  bel : Below Ww.heap.size Ww V
  row : ∃ qo qc, V.heap[Ww.heap.size]? = some (.cells #[.slice to tn tc, .slice qo k qc] 25 (0, 0)) ∧ Ft 2 V (Ww.heap.size + 1) qo k qc ((List.range k).map F)
  err : ∀ j, j + 1 < k → G j = 0
theorem Wt.start (Ww : World) (to : Option Addr) (tn tc : Nat) (F G : Nat → Int) : Wt Ww (Ww.alloc (.cells #[.slice to tn tc, .slice none 0 0] 25)) to tn tc 0 F G :=
  ⟨box_below _ _, ⟨none, 0, allocNew _ _, Ft.nil _ _ _⟩, fun j hj => by omega⟩
theorem Wt.below {Ww V V' : World} {to : Option Addr} {tn tc k : Nat} {F G : Nat → Int} (h : Wt Ww V to tn tc k F G) (b : Below V.heap.size V V') : Wt Ww V' to tn tc k F G := by
  obtain ⟨qo, qc, h1, h2⟩ := h.row
  exact ⟨h.bel.trans (b.mono h.bel.size), ⟨qo, qc, (b.block _ (Array.getElem?_eq_some_iff.1 h1).1).trans h1, h2.below b (Nat.le_refl _)⟩, h.err⟩
theorem Wt.step {Ww V : World} {to qo co : Option Addr} {tn tc k qc c : Nat} {F G : Nat → Int} (bel : Below Ww.heap.size Ww V) (hb : V.heap[Ww.heap.size]? = some (.cells #[.slice to tn tc, .slice qo k qc] 25 (0, 0))) (hf : Ft 2 V (Ww.heap.size + 1) co (k + 1) c ((List.range k).map F ++ [F k])) (he : ∀ j, j + 1 < k → G j = 0) (hg : gK G k = 0) :
    Wt Ww (V.setCell ⟨Ww.heap.size, 1, none⟩ (.slice co (k + 1) c)) to tn tc (k + 1) F G := by
  have h := heap_setCell_same V Ww.heap.size 1 _ 25 (.slice co (k + 1) c) hb
  refine ⟨bel.setCell (p := ⟨Ww.heap.size, 1, none⟩) (Nat.le_refl _) _, ⟨co, c, h, ?_⟩, fun j hj => ?_⟩
  · rw [List.range_succ, List.map_append]
    exact hf.keep1 (set1 _ _ _ _) (fun b off e => by have := (hf.at b off e).1; intro e'; simp only [Option.some.injEq] at e'; omega)
  · by_cases e : j + 1 = k
    · unfold gK at hg
      rw [if_neg (by omega)] at hg
      rw [show j = k - 1 by omega]; exact hg
    · exact he j (by omega)
theorem fe_zero : ∀ (l : List Int), fe l = 0 → ∀ j, j < l.length → nth l j = 0
  | [], _, j, hj => by simp at hj
  | e :: r, h, j, hj => by
    unfold fe at h
    by_cases h0 : e = 0
    · rw [if_pos h0] at h
      cases j with
      | zero => exact h0
      | succ j => exact fe_zero r h j (by simpa using hj)
    · rw [if_neg h0] at h; exact absurd h h0
theorem fe_range {n : Nat} {G : Nat → Int} (h : fe ((List.range n).map G) = 0) (j : Nat) (hj : j < n) : G j = 0 := by
  have := fe_zero _ h j (by simpa using hj)
  rwa [nth_range hj] at this
theorem gK_all {n k : Nat} {G : Nat → Int} (h : fe ((List.range n).map G) = 0) (hk : k ≤ n) : gK G k = 0 := by
  unfold gK
  by_cases e : k = 0
  · rw [if_pos e]
  · rw [if_neg e]; exact fe_range h _ (by omega)
/-- Where an atom is refused, and none ahead of it, that is the error. -/
theorem fe_gK {n k : Nat} {G : Nat → Int} (hk : k ≤ n) (he : ∀ j, j + 1 < k → G j = 0) (hg : gK G k ≠ 0) : fe ((List.range n).map G) = gK G k := by
  unfold gK at *
  by_cases e : k = 0
  · rw [if_pos e] at hg; exact absurd rfl hg
  · rw [if_neg e] at hg ⊢
    rw [fe_at _ (k - 1) (by simp; omega) (fun j hj => by rw [nth_range (by omega)]; exact he j (by omega)) (by rw [nth_range (by omega)]; exact hg), nth_range (by omega)]
theorem fe_full {n : Nat} {G : Nat → Int} (he : ∀ j, j + 1 < n → G j = 0) (hg : gK G n = 0) : fe ((List.range n).map G) = 0 := by
  refine fe_none _ fun j hj => ?_
  simp only [List.length_map, List.length_range] at hj
  rw [nth_range hj]
  by_cases e : j + 1 = n
  · unfold gK at hg
    rw [if_neg (by omega)] at hg
    rw [show j = n - 1 by omega]; exact hg
  · exact he j (by omega)
theorem map_range {f : Int → Int} (l : List Int) : l.map f = (List.range l.length).map (fun j => f (nth l j)) :=
  ext_nth (by simp) (fun k hk => by simp only [List.length_map] at hk; rw [nth_maps hk, nth_range hk])

theorem each_facts {op : Int} {sx ax sy ay : List Int} (hxy : sx = sy) (m0 : mayA sx ax = 0) (m1 : mayA sy ay = 0) :
    ax.length = ay.length ∧ agrB sx sy = true ∧ agrL sx sy = sy ∧ dyR op sx ax sy ay = (List.range ay.length).map (fun i => Nm.dE op (nth ax i) (nth ay i)) ∧ dyL op sx ax sy ay = (List.range ay.length).map (fun i => Nm.dN op (nth ax i) (nth ay i)) := by
  subst hxy
  have ha : agrB sx sx = true := agr_yes fun _ _ _ => rfl
  have hL : agrL sx sx = sx := agrL_x ha (Nat.le_refl _)
  obtain ⟨a1, a2⟩ := mayA_zero m0
  obtain ⟨b1, b2⟩ := mayA_zero m1
  have hN : dyN sx sx = ay.length := by unfold dyN; rw [hL]; omega
  have hB : dyB sx sx sx = 1 := by unfold dyB; rw [hL, List.drop_length]; simp [pr]
  refine ⟨by omega, ha, hL, ?_, ?_⟩
  · unfold dyR; rw [hN]
    apply List.map_congr_left
    intro i _
    unfold dyG
    rw [hB, Nat.div_one]
  · unfold dyL; rw [hN]
    apply List.map_congr_left
    intro i _
    unfold dyF
    rw [hB, Nat.div_one]
end Go.Proofs.Ytjllmfahmlfljaa


namespace Go.Proofs.Ytjllmfahmlfljaa

open Go.RowKit Go.Deep

set_option linter.unusedVariables false

theorem eq_gen (W : World) (o1 o2 o3 o4 : Option Addr) (n1 c1 n2 c2 n3 c3 n4 c4 : Nat) (s a : List Int) (h1 : Rd W o1 n1 s) (h2 : Rd W o2 n2 a) (h3 : Rd W o3 n3 s) (h4 : Rd W o4 n4 a) : Calls Try.prog 34 #[.agg #[.slice o1 n1 c1, .slice o2 n2 c2], .agg #[.slice o3 n3 c3, .slice o4 n4 c4]] W fun e w' => e = .returned (.bool true) ∧ Below W.heap.size W w' := by
  have := eq_any o1 o2 o3 o4 n1 c1 n2 c2 n3 c3 n4 c4 s a s a W h1 h2 h3 h4
  rwa [eqA_refl] at this

set_option maxHeartbeats 4000000 in
set_option maxRecDepth 20000 in
theorem each_my (op : Int) (so ao to bo : Option Addr) (sn sc an ac tn tc bn bc : Nat) (sx ax sy ay : List Int) (w : World) (h1 : Rd w so sn sx) (h2 : Rd w ao an ax) (h3 : Rd w to tn sy) (h4 : Rd w bo bn ay) (hs : Sl so sn sc) (ht : Sl to tn tc) (m : mayA sy ay ≠ 0) :
    Calls Try.prog 7 #[.int .i64 op, .agg #[.slice so sn sc, .slice ao an ac], .agg #[.slice to tn tc, .slice bo bn bc]] w fun e w' => e = .returned (.bool true) ∧ Below w.heap.size w w' := by
  have I0 := lg_start w so sn sc ao an ac to tn tc bo bn bc sx ax sy ay h1 h2 h3 h4
  have hm2 := fun W (x : Rd W to tn sy) (y : Rd W bo bn ay) => mayA_any to bo tn tc bn bc sy ay W x y
  have hmx := fun W (x : Rd W so sn sx) (y : Rd W ao an ax) => mayA_any so ao sn sc an ac sx ax W x y
  have hh1 := fun W => has_any op 1 W
  have hh2 := fun W => has_any op 2 W
  have hmo := fun W (x : Rd W to tn sy) (y : Rd W bo bn ay) => monad_any op to bo tn tc bn bc sy ay W x y
  have hd := fun W (x : Rd W so sn sx) (y : Rd W ao an ax) (z : Rd W to tn sy) (u : Rd W bo bn ay) => dyad_any op so ao to bo sn sc an ac tn tc bn bc sx ax sy ay W x y z u hs ht
  have hes := fun W (x : Rd W so sn sx) (z : Rd W to tn sy) => eq_any so none to none sn sc 0 0 tn tc 0 0 sx [] sy [] W x (Rd.nil W) z (Rd.nil W)
  have m' : (mayA sy ay != 0) = true := by simpa using m
  rw [show moE op sy ay = 1 from if_pos m] at hmo
  clear m
  go_enter Try.func7, Try.ntmps7
  go_wp2_with (first | (go_at_call 29; refine (begun5_any _).mono ?_; rintro e W1 ⟨rfl, k1⟩; have I1 := I0.below k1; have I1' := I1; obtain ⟨p0, p1, p2, p3, _, _, _, _, _⟩ := I1') | (go_at_call 30; (with_reducible refine (hm2 _ I1.t I1.b).mono ?_); rintro e W2 ⟨rfl, k2⟩; have I2 := I1.below k2; have I2' := I2; obtain ⟨q0, q1, q2, q3, _, _, _, _, _⟩ := I2') | (go_at_call 31; refine (hmo _ I2.t I2.b).mono ?_; rintro e W3 ⟨o1, n1, c1, o2, n2, c2, rfl, g1, g2, k3⟩; have I3 := (I2.below k3).below (box_below W3 (.cells #[.slice o1 n1 c1, .slice o2 n2 c2] 25))))
  go_ret
  exact ⟨rfl, I3.bel⟩
end Go.Proofs.Ytjllmfahmlfljaa
