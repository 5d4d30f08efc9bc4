
/- Contract: one array more that a joiner takes. -/

import Derived.Test.YtelcagfaflpolaaGreatC12

namespace Go.Proofs.YtelcagfaflpolaaGreat

open Go.RowKit

set_option linter.unusedVariables false

theorem Ft.app {e : TypeId} {W W' : World} {B : Nat} {o : Option Addr} {k c : Nat} {zs : List Int} (h : Ft e W B o k c zs) {B' : Nat} {go : Option Addr} {n gc : Nat} {cs : List Value} (hown : W.ownsRow B' 36 2 (.slice go n gc) n cs) (hg : W.grownBy W' (Value.slice go n gc).ownBlock) (hne : e ≠ 36) : Ft e W' B o k c zs := by
  rcases hown.2 with ⟨e1, _⟩ | ⟨g, c', cur, e1, _, hg', _⟩
  · cases e1; exact h.keep1 hg (fun b off _ e2 => by cases e2)
  · cases e1; exact h.kind hg hg' hne
theorem box_app {W W' : World} {B b : Nat} {go : Option Addr} {n gc : Nat} {cs : List Value} (hown : W.ownsRow B 36 2 (.slice go n gc) n cs) (hg : W.grownBy W' (Value.slice go n gc).ownBlock) {cur : Array Value} {t : TypeId} (hb : W.heap[b]? = some (.cells cur t (0, 0))) (hne : t ≠ 36) : W'.heap[b]? = some (.cells cur t (0, 0)) := by
  refine (hg.block b (Array.getElem?_eq_some_iff.1 hb).1 (fun e => ?_)).trans hb
  rcases hown.2 with ⟨e1, _⟩ | ⟨g, c', cur', e1, _, hg', _⟩
  · cases e1; cases e
  · cases e1; cases e
    rw [hg'] at hb; cases hb; exact hne rfl
theorem own_kind {W W' : World} {B b : Nat} {go : Option Addr} {n gc : Nat} {cs : List Value} (h : W.ownsRow B 36 2 (.slice go n gc) n cs) (hg : W.grownBy W' (some b)) {cur : Array Value} {t : TypeId} (hb : W.heap[b]? = some (.cells cur t (0, 0))) (hne : 36 ≠ t) : W'.ownsRow B 36 2 (.slice go n gc) n cs := by
  refine ⟨h.1, ?_⟩
  rcases h.2 with h0 | ⟨g, c, cur', e, hB2, hg', r⟩
  · exact .inl h0
  · refine .inr ⟨g, c, cur', e, hB2, (hg.block g (Array.getElem?_eq_some_iff.1 hg').1 (fun e2 => ?_)).trans hg', r⟩
    cases e2
    rw [hg'] at hb
    cases hb
    exact hne rfl
theorem own_below {W W' : World} {B B' : Nat} {go : Option Addr} {n gc : Nat} {cs : List Value} (h : W.ownsRow B 36 2 (.slice go n gc) n cs) (hb : Below B' W W') (hB : W.heap.size ≤ B') : W'.ownsRow B 36 2 (.slice go n gc) n cs := by
  refine ⟨h.1, ?_⟩
  rcases h.2 with h0 | ⟨g, c, cur', e, hB2, hg, r⟩
  · exact .inl h0
  · exact .inr ⟨g, c, cur', e, hB2, by rw [hb.block g (Nat.lt_of_lt_of_le (Array.getElem?_eq_some_iff.1 hg).1 hB)]; exact hg, r⟩
/-- Numbers don't lie in a joiner's box. -/
theorem Rd.notbox {W W' : World} {o : Option Addr} {n : Nat} {zs : List Int} (h : Rd W o n zs) {b : Nat} {x y z : Option Addr} {i j k l m q : Nat} {t : TypeId} (hb : W.heap[b]? = some (.cells #[.slice x i j, .slice y k l, .slice z m q] t (0, 0))) (hg : W.grownBy W' (some b)) : Rd W' o n zs := by
  refine h.keep0 hg (fun h0 b' off e e2 => ?_)
  cases e2
  obtain ⟨b2, off2, e3, _, hc⟩ := h.cells h0
  rw [e] at e3; cases e3
  have c0 := hc 0 h0
  rw [Nat.add_zero, cell_of_row W b off _ _ (0, 0) hb] at c0
  match off with
  | 0 => cases c0
  | 1 => cases c0
  | 2 => cases c0
  | off + 3 => simp at c0

theorem cmn_next {xs : Nat → List Int × List Int} {n : Nat} {sh at' : List Int} (h : xs n = (sh, at')) : cmn xs (n + 1) = nxt xs n sh := by
  unfold nxt
  show (if n = 0 then (xs 0).1 else com (cmn xs n) (xs n).1) = _
  by_cases c : n = 0
  · subst c; rw [if_pos rfl, if_pos rfl, h]
  · rw [if_neg c, if_neg c, h]

/-- A joiner whose common shape is told already, and an array in a box beside it. -/
structure Jq (w V : World) (B jb bx : Nat) (fo : Option Addr) (fn fc : Nat) (co : Option Addr) (cn cc : Nat) (go : Option Addr) (gc : Nat) (so : Option Addr) (sn sc : Nat) (ao : Option Addr) (an ac : Nat) (fs cl : List Int) (xs : Nat → List Int × List Int) (n : Nat) (sh at' : List Int) : Prop where
  box : V.heap[jb]? = some (.cells #[.slice fo fn fc, .slice co cn cc, .slice go n gc] 79 (0, 0))
  f : Ft 3 V B fo fn fc fs
  c : Ft 3 V B co cn cc cl
  g : Gv V B go n gc xs
  c0 : V.cell? ⟨bx, 0, none⟩ = some (.slice so sn sc)
  c1 : V.cell? ⟨bx, 1, none⟩ = some (.slice ao an ac)
  s : Rd V so sn sh
  a : Rd V ao an at'
  bel : Below B w V
theorem Jq.below {w V V' : World} {B jb bx : Nat} {fo : Option Addr} {fn fc : Nat} {co : Option Addr} {cn cc : Nat} {go : Option Addr} {gc : Nat} {so : Option Addr} {sn sc : Nat} {ao : Option Addr} {an ac : Nat} {fs cl : List Int} {xs : Nat → List Int × List Int} {n : Nat} {sh at' : List Int}
    (h : Jq w V B jb bx fo fn fc co cn cc go gc so sn sc ao an ac fs cl xs n sh at') (k : Below V.heap.size V V') (hB : B ≤ V.heap.size) : Jq w V' B jb bx fo fn fc co cn cc go gc so sn sc ao an ac fs cl xs n sh at' := by
  have l0 := World.block_lt_of_cell? V _ h.c0
  exact ⟨(k.block jb (Array.getElem?_eq_some_iff.1 h.box).1).trans h.box, h.f.below k (Nat.le_refl _), h.c.below k (Nat.le_refl _), h.g.below k (Nat.le_refl _), (k.cell (p := ⟨bx, 0, none⟩) l0).trans h.c0, (k.cell (p := ⟨bx, 1, none⟩) l0).trans h.c1, h.s.below k (Nat.le_refl _), h.a.below k (Nat.le_refl _), h.bel.trans (k.mono hB)⟩

theorem add_fin {w V8 w9 : World} {B jb bx : Nat} {fo : Option Addr} {fn fc : Nat} {co : Option Addr} {cn cc : Nat} {go : Option Addr} {gc : Nat} {so : Option Addr} {sn sc : Nat} {ao : Option Addr} {an ac : Nat} {fs cl : List Int} {xs : Nat → List Int × List Int} {n : Nat} {sh at' : List Int} (D : Jq w V8 B jb bx fo fn fc co cn cc go gc so sn sc ao an ac fs cl xs n sh at') (hj : B ≤ jb) {cs : List Value}
    (oc : V8.ownsRow B 36 2 (.slice go n gc) n cs) (oj : ∀ j, j < n → ∃ so sn sc to tn tc, cs[j * 2]? = some (.slice so sn sc) ∧ cs[j * 2 + 1]? = some (.slice to tn tc) ∧ Ft 3 V8 B so sn sc (xs j).1 ∧ Ft 2 V8 B to tn tc (xs j).2) {o6 o7 : Option Addr} {n6 c6 n7 c7 : Nat} (f6 : Ft 3 V8 B o6 n6 c6 sh) (f7 : Ft 2 V8 B o7 n7 c7 at') {co9 : Option Addr} {c9 : Nat}
    (own9 : w9.ownsRow B 36 2 (.slice co9 (n + 1) c9) (n + 1) (cs ++ [.slice o6 n6 c6, .slice o7 n7 c7])) (gr9 : V8.grownBy w9 (Value.slice go n gc).ownBlock) (hc : cmn xs (n + 1) = cl) (hx : xs n = (sh, at')) (hB : B ≤ V8.heap.size) :
    Jn (w9.setCell ⟨jb, 2, none⟩ (.slice co9 (n + 1) c9)) B jb fo fn fc co cn cc co9 c9 fs xs (n + 1) ∧ Below B w (w9.setCell ⟨jb, 2, none⟩ (.slice co9 (n + 1) c9)) := by
  have kst := set1 w9 jb 2 (.slice co9 (n + 1) c9)
  have bx9 := box_app oc gr9 D.box (by decide)
  have b10 := heap_setCell_same w9 jb 2 _ 79 (.slice co9 (n + 1) c9) bx9
  have ki : ∀ {o : Option Addr} {k c : Nat} {zs : List Int}, Ft 3 V8 B o k c zs → Ft 3 (w9.setCell ⟨jb, 2, none⟩ (.slice co9 (n + 1) c9)) B o k c zs := fun f => (f.app oc gr9 (by decide)).kind kst bx9 (by decide)
  have kl : ∀ {o : Option Addr} {k c : Nat} {zs : List Int}, Ft 2 V8 B o k c zs → Ft 2 (w9.setCell ⟨jb, 2, none⟩ (.slice co9 (n + 1) c9)) B o k c zs := fun f => (f.app oc gr9 (by decide)).kind kst bx9 (by decide)
  have hl : cs.length = n * 2 := oc.1
  refine ⟨⟨by simpa using b10, hj, ki D.f, by rw [hc]; exact ki D.c, ⟨_, own_kind own9 kst bx9 (by decide), fun j hjn => ?_⟩⟩, ?_⟩
  · by_cases e : j = n
    · subst e
      refine ⟨o6, n6, c6, o7, n7, c7, ?_, ?_, by rw [hx]; exact ki f6, by rw [hx]; exact kl f7⟩
      · rw [List.getElem?_append_right (by omega), hl, Nat.sub_self]; rfl
      · rw [List.getElem?_append_right (by omega), hl, show j * 2 + 1 - j * 2 = 1 by omega]; rfl
    · obtain ⟨s1, s2, s3, s4, s5, s6, b1, b2, b3, b4⟩ := oj j (by omega)
      exact ⟨s1, s2, s3, s4, s5, s6, by rw [List.getElem?_append_left (by omega)]; exact b1, by rw [List.getElem?_append_left (by omega)]; exact b2, ki b3, kl b4⟩
  · refine (D.bel.grown gr9 hB (fun k e => (oc.lt k e).1)).grown kst ?_ (fun k e => by cases e; exact hj)
    have := gr9.size
    omega

set_option linter.unusedSimpArgs false in
set_option maxHeartbeats 8000000 in
set_option maxRecDepth 20000 in
theorem add_ok {w : World} {B jb : Nat} {fo : Option Addr} {fn fc : Nat} {co : Option Addr} {cn cc : Nat} {go : Option Addr} {gc : Nat} {fs : List Int} {xs : Nat → List Int × List Int} {n : Nat} (h : Jn w B jb fo fn fc co cn cc go gc fs xs n) (so ao : Option Addr) (sn sc an ac : Nat) (sh at' : List Int) (hs : Rd w so sn sh) (ss : Sl so sn sc) (ha : Rd w ao an at') (sa : Sl ao an ac) (m0 : mayF fs = 0) (hc : n ≠ 0 → mayF (cmn xs n) = 0) (hn : n ≤ 5000) (hb : addE fs xs n sh at' = 0) (hx : xs n = (sh, at')) (hB : B ≤ w.heap.size) :
    Calls Tryz.prog 17 #[.pointer (some ⟨jb, 0, none⟩), .agg #[.slice so sn sc, .slice ao an ac]] w fun e w' => ∃ co' cn' cc' go' gc', e = .returned (.int .i64 0) ∧ Jn w' B jb fo fn fc co' cn' cc' go' gc' fs xs (n + 1) ∧ Below B w w' := by
  have J0 := ja_start (so := so) (sn := sn) (sc := sc) (ao := ao) (an := an) (ac := ac) h hs ha
  have pb := prF_bd m0
  have hma := fun V (x : Rd V so sn sh) (y : Rd V ao an at') => mayA_any so ao sn sc an ac sh at' V x y
  have ljb := (Array.getElem?_eq_some_iff.1 h.box).1
  have hfn : fn ≤ 8 := by rw [← h.f.rd.len]; exact (mayF_zero m0).2.1
  have e4 : ¬ (n : Int) = pr fs := fun e => by unfold addE at hb; rw [if_pos e] at hb; omega
  have e1 : mayA sh at' = 0 := by
    by_cases c : mayA sh at' = 0
    · exact c
    · unfold addE at hb; rw [if_neg e4, if_pos c] at hb; omega
  have e23 : ¬ (mayF (nxt xs n sh) ≠ 0 ∨ mayF (fs ++ nxt xs n sh) ≠ 0) := fun c => by unfold addE at hb; rw [if_neg e4, if_neg (by omega), if_pos c] at hb; omega
  have e2 : mayF (nxt xs n sh) = 0 := by
    by_cases c : mayF (nxt xs n sh) = 0
    · exact c
    · exact absurd (.inl c) e23
  have e3 : mayF (fs ++ nxt xs n sh) = 0 := by
    by_cases c : mayF (fs ++ nxt xs n sh) = 0
    · exact c
    · exact absurd (.inr c) e23
  obtain ⟨m1, _⟩ := mayA_zero e1
  have hne : ((n : Int) == pr fs) = false := by simpa using e4
  have lx : (nxt xs n sh).length ≤ 8 := (mayF_zero e2).2.1
  have cj := fun V (x : Jn V B jb fo fn fc co cn cc go gc fs xs n) (y : Rd V so sn sh) => coverJ_any x so sn sc sh y ss m1 hc hn
  rw [e2, if_pos rfl] at cj
  rw [e1] at hma
  have HC : Hid (cmn xs (n + 1) = nxt xs n sh) := cmn_next hx
  have HX : Hid (xs n = (sh, at')) := hx
  generalize nxt xs n sh = nx at *
  have hsm := fun V o k c (x : Rd V o k (fs ++ nx)) => may_any o k c (fs ++ nx) V x
  rw [e3] at hsm
  clear hb e3 e2 e23 e4 e1 hc hx
  go_enter Tryz.func17, Tryz.ntmps17
  obtain ⟨x0, x1, x2, _, _, _⟩ := box3 J0.j.box
  go_wp2
  go_quiet (exact Calls.quiet_of_same (places_any (J0.j.below (below_drewN (Below.refl _ _) _) (Nat.le_refl _)) m0))
  have J1 := J0.below (below_drewN (Below.refl _ _) nq)
  obtain ⟨y0, y1, y2, u0, u1, u2⟩ := box3 J1.j.box
  have z0 := J1.c0
  have z1 := J1.c1
  have sz1 : w.heap.size < ((w.alloc (.cells #[.slice so sn sc, .slice ao an ac] 36)).drewN nq).heap.size := World.block_lt_of_cell? _ _ z0
  generalize (w.alloc (.cells #[.slice so sn sc, .slice ao an ac] 36)).drewN nq = W1 at *
  clear x0 x1 x2 J0
  go_wp2_with (first
    | (go_at_call 13; refine (hma _ J1.s J1.a).mono ?_; rintro e W2 ⟨rfl, h2⟩; have J2 := J1.below h2; obtain ⟨v0, v1, v2, u3, u4, u5⟩ := box3 J2.j.box; have z2 := J2.c0; have z3 := J2.c1)
    | (go_at_call 39; refine (cj _ J2.j J2.s).mono ?_; rintro e W3 ⟨o3, k3, c3, rfl, f3, h3⟩; have hk3 : k3 ≤ 5000 := (by have := f3.rd.len; omega); have J3 := J2.below h3; obtain ⟨q0, q1, q2, u6, u7, u8⟩ := box3 J3.j.box; have z4 := J3.c0; have z5 := J3.c1)
    | (go_at_call 41; refine (concat_any fo o3 fn fc k3 c3 W3.heap.size fs _ _ (allocNew W3 _) (J3.j.f.rd.below (box_below W3 _) (Nat.le_refl _)) J3.j.f.sl (f3.rd.below (box_below W3 _) (Nat.le_refl _)) f3.sl (by omega) hk3).mono ?_; rintro e W4 ⟨o4, c4, rfl, f4, h4⟩; have J4 := (J3.below (box_below W3 (.cells #[.slice fo fn fc, .slice o3 k3 c3] 33))).below h4; have f5 := (f3.below (box_below W3 (.cells #[.slice fo fn fc, .slice o3 k3 c3] 33)) (Nat.le_refl _)).below h4 (Nat.le_refl _); have bx4 := J4.j.box; obtain ⟨r0, r1, r2, u9, u10, u11⟩ := box3 bx4; have z6 := J4.c0; have z7 := J4.c1)
    | (go_at_call 40; refine (hsm _ _ _ _ f4.rd).mono ?_; rintro e w' ⟨rfl, hw⟩; rw [hw]; clear hw w'))
  have k5 := set1 W4 jb 1 (.slice o3 k3 c3)
  have s2 := h2.size
  have s3 := h3.size
  have s4 := h4.size
  have b5 : (W4.setCell ⟨jb, 1, none⟩ (.slice o3 k3 c3)).heap[jb]? = some (.cells #[.slice fo fn fc, .slice o3 k3 c3, .slice go n gc] 79 (0, 0)) := by
    have := heap_setCell_same W4 jb 1 _ 79 (.slice o3 k3 c3) bx4
    simpa using this
  have hbw : w.heap.size ≠ jb := by omega
  have Q5 : Jq w (W4.setCell ⟨jb, 1, none⟩ (.slice o3 k3 c3)) B jb w.heap.size fo fn fc o3 k3 c3 go gc so sn sc ao an ac fs nx xs n sh at' :=
    ⟨b5, J4.j.f.kind k5 bx4 (by decide), (f5.kind k5 bx4 (by decide)).mono (by omega), J4.j.g.kind k5 bx4 (by decide) (by decide) (by decide), k5.cell J4.c0 (fun e => hbw (by cases e; rfl)), k5.cell J4.c1 (fun e => hbw (by cases e; rfl)), J4.s.notbox bx4 k5, J4.a.notbox bx4 k5, (J4.bel.mono hB).grown k5 (by have := J4.bel.size; omega) (fun k e => by cases e; exact h.hB)⟩
  have hs5 : w.heap.size < (W4.setCell ⟨jb, 1, none⟩ (.slice o3 k3 c3)).heap.size := World.block_lt_of_cell? _ _ Q5.c0
  generalize W4.setCell ⟨jb, 1, none⟩ (.slice o3 k3 c3) = W5 at *
  clear k5 b5 J4 J3 J2 J1 f5 f4 f3 h2 h3 h4 bx4 hma cj hsm y0 y1 y2 u0 u1 u2 v0 v1 v2 u3 u4 u5 q0 q1 q2 u6 u7 u8 r0 r1 r2 u9 u10 u11 z0 z1 z2 z3 z4 z5 z6 z7 hne pb
  obtain ⟨g0, g1, g2, _, _, _⟩ := box3 Q5.box
  have D5 := Q5.below (Below.refl _ W5).drew (by omega)
  have hBs : B ≤ W5.heap.size := by omega
  have d0 := D5.c0
  have d1 := D5.c1
  obtain ⟨d2, d3, d4, _, _, _⟩ := box3 D5.box
  obtain ⟨cs, oc, oj⟩ := D5.g.own
  have nb : ∀ k, (Value.slice go n gc).ownBlock = some k → k < w.heap.size := fun k e => by
    obtain ⟨cs', oc', _⟩ := h.g.own
    exact (oc'.lt k e).2
  clear g0 g1 g2
  refine wp_region_held_drew (S := (fun V => V.cell? ⟨w.heap.size, 0, none⟩ = some (.slice so sn sc) ∧ V.cell? ⟨w.heap.size, 1, none⟩ = some (.slice ao an ac) ∧ True)) (by kernel_rfl) ⟨d0, d1, trivial⟩ (fun hHeld => ?_)
  refine wpAnyH_take (i := 0) (v := ?_) rfl (by kernel_rfl) (by kernel_rfl) (by kernel_rfl) (fun _ _ _ h => h) (Or.inl ⟨by rfl, ?_⟩) (by assumption) ?_
  rotate_left
  · (intro V hSw; (try dsimp only at hSw); go_simp; (try with_reducible rfl))
  (try simp only [Act.put, List.setIfInBounds_toArray, List.set_cons_zero, List.set_cons_succ])
  refine wpAnyH_take (i := 1) (v := ?_) rfl (by kernel_rfl) (by kernel_rfl) (by kernel_rfl) (fun _ _ _ h => h) (Or.inl ⟨by rfl, ?_⟩) (by assumption) ?_
  rotate_left
  · (intro V hSw; (try dsimp only at hSw); go_simp; (try with_reducible rfl))
  (try simp only [Act.put, List.setIfInBounds_toArray, List.set_cons_zero, List.set_cons_succ])
  refine wpAnyH_take (i := 2) (v := ?_) rfl (by kernel_rfl) (by kernel_rfl) (by kernel_rfl) (fun _ _ _ h => h) (Or.inl ⟨by rfl, ?_⟩) (by assumption) ?_
  rotate_left
  · (intro V hSw; (try dsimp only at hSw); go_simp; (try with_reducible rfl))
  (try simp only [Act.put, List.setIfInBounds_toArray, List.set_cons_zero, List.set_cons_succ])
  refine wpAnyH_take (i := 3) (v := ?_) rfl (by kernel_rfl) (by kernel_rfl) (by kernel_rfl) (fun _ _ _ h => h) (Or.inl ⟨by rfl, ?_⟩) (by assumption) ?_
  rotate_left
  · (intro V hSw; (try dsimp only at hSw); go_simp; (try with_reducible rfl))
  (try simp only [Act.put, List.setIfInBounds_toArray, List.set_cons_zero, List.set_cons_succ])
  refine wpAnyH_take (i := 5) (v := ?_) rfl (by kernel_rfl) (by kernel_rfl) (by kernel_rfl) (fun _ _ _ h => h) (Or.inl ⟨by rfl, ?_⟩) (by assumption) ?_
  rotate_left
  · (intro V hSw; (try dsimp only at hSw); go_simp; (try with_reducible rfl))
  (try simp only [Act.put, List.setIfInBounds_toArray, List.set_cons_zero, List.set_cons_succ])
  refine wpAnyH_take (i := 6) (v := ?_) rfl (by kernel_rfl) (by kernel_rfl) (by kernel_rfl) (fun _ _ _ h => h) (Or.inl ⟨by rfl, ?_⟩) (by assumption) ?_
  rotate_left
  · (intro V hSw; (try dsimp only at hSw); go_simp; (try with_reducible rfl))
  (try simp only [Act.put, List.setIfInBounds_toArray, List.set_cons_zero, List.set_cons_succ])
  refine wpAnyH_take (i := 8) (v := ?_) rfl (by kernel_rfl) (by kernel_rfl) (by kernel_rfl) (fun _ _ _ h => h) (Or.inl ⟨by rfl, ?_⟩) (by assumption) ?_
  rotate_left
  · (intro V hSw; (try dsimp only at hSw); go_simp; (try with_reducible rfl))
  (try simp only [Act.put, List.setIfInBounds_toArray, List.set_cons_zero, List.set_cons_succ])
  refine wpAnyH_take (i := 9) (v := ?_) rfl (by kernel_rfl) (by kernel_rfl) (by kernel_rfl) (fun _ _ _ h => h) (Or.inl ⟨by rfl, ?_⟩) (by assumption) ?_
  rotate_left
  · (intro V hSw; (try dsimp only at hSw); go_simp; (try with_reducible rfl))
  (try simp only [Act.put, List.setIfInBounds_toArray, List.set_cons_zero, List.set_cons_succ])
  refine wpAnyH_ready (rs := [4, 7]) (by kernel_rfl) (by simp) ?_
  refine AllReadyH.cons rfl (fun K hK => ?_) ?_
  · go_simp
    refine hK.out _ _ ⟨d0, d1, trivial⟩ (fun hHeld2 => ?_)
    clear hK K hHeld
    have hHeld := hHeld2
    clear hHeld2
    (try simp only [Act.put, List.setIfInBounds_toArray, List.set_cons_zero, List.set_cons_succ])
    refine wpAnyH_ready (rs := [7]) (by kernel_rfl) (by simp) ?_
    refine AllReadyH.cons rfl (fun K hK => ?_) ?_
    · (go_simp; go_at_call 34; refine (clone_any so sn sc sh _ D5.s ss).mono ?_; rintro e w6 ⟨o6, c6, rfl, f6, h6⟩; have D6 := D5.below h6 (by simpa using hBs); have e0 := D6.c1; obtain ⟨_, _, e1, _, _, _⟩ := box3 D6.box; have hs6 : W5.heap.size ≤ w6.heap.size := h6.size; have oc6 := own_below oc h6 (Nat.le_refl _); (try go_wp2_with fail))
      refine hK.out _ _ ⟨D6.c0, D6.c1, trivial⟩ (fun hHeld2 => ?_)
      clear hK K hHeld
      have hHeld := hHeld2
      clear hHeld2
      (try simp only [Act.put, List.setIfInBounds_toArray, List.set_cons_zero, List.set_cons_succ])
      refine wpAnyH_ready (rs := [10]) (by kernel_rfl) (by simp) ?_
      refine AllReadyH.cons rfl (fun K hK => ?_) ?_
      · (go_simp; go_at_call 35; refine (clone8_any ao an ac at' _ D6.a sa).mono ?_; rintro e w7 ⟨o7, c7, rfl, f7, h7⟩; have D7 := D6.below h7 (by omega); obtain ⟨_, _, e2, e3, e4, e5⟩ := box3 D7.box; have hs7 := h7.size; have oc7 := own_below oc6 h7 (Nat.le_refl _); have k8 := box_below w7 (.cells #[.slice o6 sn c6, .slice o7 an c7] 36); have D8 := D7.below k8 (by omega); have oc8 := own_below oc7 k8 (Nat.le_refl _); have bx8 := D8.box; obtain ⟨_, _, e6, _, _, _⟩ := box3 bx8; (try go_wp2_with fail))
        refine hK.out _ _ ⟨D7.c0, D7.c1, trivial⟩ (fun hHeld2 => ?_)
        clear hK K hHeld
        have hHeld := hHeld2
        clear hHeld2
        (try simp only [Act.put, List.setIfInBounds_toArray, List.set_cons_zero, List.set_cons_succ])
        refine wpAnyH_take (i := 11) (v := ?_) rfl (by kernel_rfl) (by kernel_rfl) (by kernel_rfl) (fun _ _ _ h => h) (Or.inl ⟨by rfl, ?_⟩) (by assumption) ?_
        rotate_left
        · (intro V hSw; (try dsimp only at hSw); go_simp; (try with_reducible rfl))
        (try simp only [Act.put, List.setIfInBounds_toArray, List.set_cons_zero, List.set_cons_succ])
        refine wpAnyH_ready (rs := [12]) (by kernel_rfl) (by simp) ?_
        refine AllReadyH.cons rfl (fun K hK => ?_) ?_
        · go_simp
          refine hK.out _ _ ⟨D8.c0, D8.c1, trivial⟩ (fun hHeld2 => ?_)
          clear hK K hHeld
          have hHeld := hHeld2
          clear hHeld2
          (try simp only [Act.put, List.setIfInBounds_toArray, List.set_cons_zero, List.set_cons_succ])
          refine wpAnyH_ready (rs := [13]) (by kernel_rfl) (by simp) ?_
          refine AllReadyH.cons rfl (fun K hK => ?_) ?_
          · (refine step_joinA rfl (.tmp 46) (.tmp 54) rfl B w7.heap.size go n gc cs (.slice o6 sn c6) (.slice o7 an c7) rfl rfl rfl rfl oc8 (allocNew w7 _) hn (by simp; omega) ?_; intro co9 c9 w9 own9 gr9; have bx9 := box_app oc8 gr9 bx8 (by decide); obtain ⟨_, _, e7, _, _, e8⟩ := box3 bx9; have s9 := gr9.cell D8.c0 (fun e => by have := nb _ e.symm; simp at this); have s10 := gr9.cell D8.c1 (fun e => by have := nb _ e.symm; simp at this))
            refine hK.out _ _ ⟨s9, s10, trivial⟩ (fun hHeld2 => ?_)
            clear hK K hHeld
            have hHeld := hHeld2
            clear hHeld2
            (try simp only [Act.put, List.setIfInBounds_toArray, List.set_cons_zero, List.set_cons_succ])
            refine wpAnyH_take (i := 14) (v := ?_) rfl (by kernel_rfl) (by kernel_rfl) (by kernel_rfl) (fun _ _ _ h => h) (Or.inl ⟨by rfl, ?_⟩) (by assumption) ?_
            rotate_left
            · (intro V hSw; (try dsimp only at hSw); go_simp; (try with_reducible rfl))
            (try simp only [Act.put, List.setIfInBounds_toArray, List.set_cons_zero, List.set_cons_succ])
            refine wpAnyH_take (i := 15) (v := ?_) rfl (by kernel_rfl) (by kernel_rfl) (by kernel_rfl) (fun _ _ _ h => h) (Or.inl ⟨by rfl, ?_⟩) (by assumption) ?_
            rotate_left
            · (intro V hSw; (try dsimp only at hSw); go_simp; (try with_reducible rfl))
            (try simp only [Act.put, List.setIfInBounds_toArray, List.set_cons_zero, List.set_cons_succ])
            refine wpAnyH_ready (rs := [16]) (by kernel_rfl) (by simp) ?_
            refine AllReadyH.cons rfl (fun K hK => ?_) ?_
            · go_simp
              have kst := set1 w9 jb 2 (.slice co9 (n + 1) c9)
              refine hK.out _ _ ⟨kst.cell s9 (fun e => hbw (by cases e; rfl)), kst.cell s10 (fun e => hbw (by cases e; rfl)), trivial⟩ (fun hHeld2 => ?_)
              clear hK K hHeld
              have hHeld := hHeld2
              clear hHeld2
              (try simp only [Act.put, List.setIfInBounds_toArray, List.set_cons_zero, List.set_cons_succ])
              refine wpAnyH_done (by kernel_rfl) ?_ _
              go_wp2
              go_ret
              exact ⟨o3, k3, c3, co9, c9, rfl, add_fin D8 h.hB oc8 (fun j hj => by obtain ⟨s1, s2, s3, s4, s5, s6, b1, b2, b3, b4⟩ := oj j hj; exact ⟨s1, s2, s3, s4, s5, s6, b1, b2, ((b3.below h6 (Nat.le_refl _)).below h7 (Nat.le_refl _)).below k8 (Nat.le_refl _), ((b4.below h6 (Nat.le_refl _)).below h7 (Nat.le_refl _)).below k8 (Nat.le_refl _)⟩) (((f6.below h7 (Nat.le_refl _)).below k8 (Nat.le_refl _)).mono hBs) ((f7.below k8 (Nat.le_refl _)).mono (by omega)) own9 gr9 HC.out HX.out (by simp; omega)⟩
            exact AllReadyH.nil
          exact AllReadyH.nil
        exact AllReadyH.nil
      exact AllReadyH.nil
    exact AllReadyH.nil
  refine AllReadyH.cons rfl (fun K hK => ?_) ?_
  · (go_simp; go_at_call 34; refine (clone_any so sn sc sh _ D5.s ss).mono ?_; rintro e w6 ⟨o6, c6, rfl, f6, h6⟩; have D6 := D5.below h6 (by simpa using hBs); have e0 := D6.c1; obtain ⟨_, _, e1, _, _, _⟩ := box3 D6.box; have hs6 : W5.heap.size ≤ w6.heap.size := h6.size; have oc6 := own_below oc h6 (Nat.le_refl _); (try go_wp2_with fail))
    refine hK.out _ _ ⟨D6.c0, D6.c1, trivial⟩ (fun hHeld2 => ?_)
    clear hK K hHeld
    have hHeld := hHeld2
    clear hHeld2
    (try simp only [Act.put, List.setIfInBounds_toArray, List.set_cons_zero, List.set_cons_succ])
    refine wpAnyH_ready (rs := [4, 10]) (by kernel_rfl) (by simp) ?_
    refine AllReadyH.cons rfl (fun K hK => ?_) ?_
    · go_simp
      refine hK.out _ _ ⟨D6.c0, D6.c1, trivial⟩ (fun hHeld2 => ?_)
      clear hK K hHeld
      have hHeld := hHeld2
      clear hHeld2
      (try simp only [Act.put, List.setIfInBounds_toArray, List.set_cons_zero, List.set_cons_succ])
      refine wpAnyH_ready (rs := [10]) (by kernel_rfl) (by simp) ?_
      refine AllReadyH.cons rfl (fun K hK => ?_) ?_
      · (go_simp; go_at_call 35; refine (clone8_any ao an ac at' _ D6.a sa).mono ?_; rintro e w7 ⟨o7, c7, rfl, f7, h7⟩; have D7 := D6.below h7 (by omega); obtain ⟨_, _, e2, e3, e4, e5⟩ := box3 D7.box; have hs7 := h7.size; have oc7 := own_below oc6 h7 (Nat.le_refl _); have k8 := box_below w7 (.cells #[.slice o6 sn c6, .slice o7 an c7] 36); have D8 := D7.below k8 (by omega); have oc8 := own_below oc7 k8 (Nat.le_refl _); have bx8 := D8.box; obtain ⟨_, _, e6, _, _, _⟩ := box3 bx8; (try go_wp2_with fail))
        refine hK.out _ _ ⟨D7.c0, D7.c1, trivial⟩ (fun hHeld2 => ?_)
        clear hK K hHeld
        have hHeld := hHeld2
        clear hHeld2
        (try simp only [Act.put, List.setIfInBounds_toArray, List.set_cons_zero, List.set_cons_succ])
        refine wpAnyH_take (i := 11) (v := ?_) rfl (by kernel_rfl) (by kernel_rfl) (by kernel_rfl) (fun _ _ _ h => h) (Or.inl ⟨by rfl, ?_⟩) (by assumption) ?_
        rotate_left
        · (intro V hSw; (try dsimp only at hSw); go_simp; (try with_reducible rfl))
        (try simp only [Act.put, List.setIfInBounds_toArray, List.set_cons_zero, List.set_cons_succ])
        refine wpAnyH_ready (rs := [12]) (by kernel_rfl) (by simp) ?_
        refine AllReadyH.cons rfl (fun K hK => ?_) ?_
        · go_simp
          refine hK.out _ _ ⟨D8.c0, D8.c1, trivial⟩ (fun hHeld2 => ?_)
          clear hK K hHeld
          have hHeld := hHeld2
          clear hHeld2
          (try simp only [Act.put, List.setIfInBounds_toArray, List.set_cons_zero, List.set_cons_succ])
          refine wpAnyH_ready (rs := [13]) (by kernel_rfl) (by simp) ?_
          refine AllReadyH.cons rfl (fun K hK => ?_) ?_
          · (refine step_joinA rfl (.tmp 46) (.tmp 54) rfl B w7.heap.size go n gc cs (.slice o6 sn c6) (.slice o7 an c7) rfl rfl rfl rfl oc8 (allocNew w7 _) hn (by simp; omega) ?_; intro co9 c9 w9 own9 gr9; have bx9 := box_app oc8 gr9 bx8 (by decide); obtain ⟨_, _, e7, _, _, e8⟩ := box3 bx9; have s9 := gr9.cell D8.c0 (fun e => by have := nb _ e.symm; simp at this); have s10 := gr9.cell D8.c1 (fun e => by have := nb _ e.symm; simp at this))
            refine hK.out _ _ ⟨s9, s10, trivial⟩ (fun hHeld2 => ?_)
            clear hK K hHeld
            have hHeld := hHeld2
            clear hHeld2
            (try simp only [Act.put, List.setIfInBounds_toArray, List.set_cons_zero, List.set_cons_succ])
            refine wpAnyH_take (i := 14) (v := ?_) rfl (by kernel_rfl) (by kernel_rfl) (by kernel_rfl) (fun _ _ _ h => h) (Or.inl ⟨by rfl, ?_⟩) (by assumption) ?_
            rotate_left
            · (intro V hSw; (try dsimp only at hSw); go_simp; (try with_reducible rfl))
            (try simp only [Act.put, List.setIfInBounds_toArray, List.set_cons_zero, List.set_cons_succ])
            refine wpAnyH_take (i := 15) (v := ?_) rfl (by kernel_rfl) (by kernel_rfl) (by kernel_rfl) (fun _ _ _ h => h) (Or.inl ⟨by rfl, ?_⟩) (by assumption) ?_
            rotate_left
            · (intro V hSw; (try dsimp only at hSw); go_simp; (try with_reducible rfl))
            (try simp only [Act.put, List.setIfInBounds_toArray, List.set_cons_zero, List.set_cons_succ])
            refine wpAnyH_ready (rs := [16]) (by kernel_rfl) (by simp) ?_
            refine AllReadyH.cons rfl (fun K hK => ?_) ?_
            · go_simp
              have kst := set1 w9 jb 2 (.slice co9 (n + 1) c9)
              refine hK.out _ _ ⟨kst.cell s9 (fun e => hbw (by cases e; rfl)), kst.cell s10 (fun e => hbw (by cases e; rfl)), trivial⟩ (fun hHeld2 => ?_)
              clear hK K hHeld
              have hHeld := hHeld2
              clear hHeld2
              (try simp only [Act.put, List.setIfInBounds_toArray, List.set_cons_zero, List.set_cons_succ])
              refine wpAnyH_done (by kernel_rfl) ?_ _
              go_wp2
              go_ret
              exact ⟨o3, k3, c3, co9, c9, rfl, add_fin D8 h.hB oc8 (fun j hj => by obtain ⟨s1, s2, s3, s4, s5, s6, b1, b2, b3, b4⟩ := oj j hj; exact ⟨s1, s2, s3, s4, s5, s6, b1, b2, ((b3.below h6 (Nat.le_refl _)).below h7 (Nat.le_refl _)).below k8 (Nat.le_refl _), ((b4.below h6 (Nat.le_refl _)).below h7 (Nat.le_refl _)).below k8 (Nat.le_refl _)⟩) (((f6.below h7 (Nat.le_refl _)).below k8 (Nat.le_refl _)).mono hBs) ((f7.below k8 (Nat.le_refl _)).mono (by omega)) own9 gr9 HC.out HX.out (by simp; omega)⟩
            exact AllReadyH.nil
          exact AllReadyH.nil
        exact AllReadyH.nil
      exact AllReadyH.nil
    refine AllReadyH.cons rfl (fun K hK => ?_) ?_
    · (go_simp; go_at_call 35; refine (clone8_any ao an ac at' _ D6.a sa).mono ?_; rintro e w7 ⟨o7, c7, rfl, f7, h7⟩; have D7 := D6.below h7 (by omega); obtain ⟨_, _, e2, e3, e4, e5⟩ := box3 D7.box; have hs7 := h7.size; have oc7 := own_below oc6 h7 (Nat.le_refl _); have k8 := box_below w7 (.cells #[.slice o6 sn c6, .slice o7 an c7] 36); have D8 := D7.below k8 (by omega); have oc8 := own_below oc7 k8 (Nat.le_refl _); have bx8 := D8.box; obtain ⟨_, _, e6, _, _, _⟩ := box3 bx8; (try go_wp2_with fail))
      refine hK.out _ _ ⟨D7.c0, D7.c1, trivial⟩ (fun hHeld2 => ?_)
      clear hK K hHeld
      have hHeld := hHeld2
      clear hHeld2
      (try simp only [Act.put, List.setIfInBounds_toArray, List.set_cons_zero, List.set_cons_succ])
      refine wpAnyH_take (i := 11) (v := ?_) rfl (by kernel_rfl) (by kernel_rfl) (by kernel_rfl) (fun _ _ _ h => h) (Or.inl ⟨by rfl, ?_⟩) (by assumption) ?_
      rotate_left
      · (intro V hSw; (try dsimp only at hSw); go_simp; (try with_reducible rfl))
      (try simp only [Act.put, List.setIfInBounds_toArray, List.set_cons_zero, List.set_cons_succ])
      refine wpAnyH_ready (rs := [4, 12]) (by kernel_rfl) (by simp) ?_
      refine AllReadyH.cons rfl (fun K hK => ?_) ?_
      · go_simp
        refine hK.out _ _ ⟨D7.c0, D7.c1, trivial⟩ (fun hHeld2 => ?_)
        clear hK K hHeld
        have hHeld := hHeld2
        clear hHeld2
        (try simp only [Act.put, List.setIfInBounds_toArray, List.set_cons_zero, List.set_cons_succ])
        refine wpAnyH_ready (rs := [12]) (by kernel_rfl) (by simp) ?_
        refine AllReadyH.cons rfl (fun K hK => ?_) ?_
        · go_simp
          refine hK.out _ _ ⟨D8.c0, D8.c1, trivial⟩ (fun hHeld2 => ?_)
          clear hK K hHeld
          have hHeld := hHeld2
          clear hHeld2
          (try simp only [Act.put, List.setIfInBounds_toArray, List.set_cons_zero, List.set_cons_succ])
          refine wpAnyH_ready (rs := [13]) (by kernel_rfl) (by simp) ?_
          refine AllReadyH.cons rfl (fun K hK => ?_) ?_
          · (refine step_joinA rfl (.tmp 46) (.tmp 54) rfl B w7.heap.size go n gc cs (.slice o6 sn c6) (.slice o7 an c7) rfl rfl rfl rfl oc8 (allocNew w7 _) hn (by simp; omega) ?_; intro co9 c9 w9 own9 gr9; have bx9 := box_app oc8 gr9 bx8 (by decide); obtain ⟨_, _, e7, _, _, e8⟩ := box3 bx9; have s9 := gr9.cell D8.c0 (fun e => by have := nb _ e.symm; simp at this); have s10 := gr9.cell D8.c1 (fun e => by have := nb _ e.symm; simp at this))
            refine hK.out _ _ ⟨s9, s10, trivial⟩ (fun hHeld2 => ?_)
            clear hK K hHeld
            have hHeld := hHeld2
            clear hHeld2
            (try simp only [Act.put, List.setIfInBounds_toArray, List.set_cons_zero, List.set_cons_succ])
            refine wpAnyH_take (i := 14) (v := ?_) rfl (by kernel_rfl) (by kernel_rfl) (by kernel_rfl) (fun _ _ _ h => h) (Or.inl ⟨by rfl, ?_⟩) (by assumption) ?_
            rotate_left
            · (intro V hSw; (try dsimp only at hSw); go_simp; (try with_reducible rfl))
            (try simp only [Act.put, List.setIfInBounds_toArray, List.set_cons_zero, List.set_cons_succ])
            refine wpAnyH_take (i := 15) (v := ?_) rfl (by kernel_rfl) (by kernel_rfl) (by kernel_rfl) (fun _ _ _ h => h) (Or.inl ⟨by rfl, ?_⟩) (by assumption) ?_
            rotate_left
            · (intro V hSw; (try dsimp only at hSw); go_simp; (try with_reducible rfl))
            (try simp only [Act.put, List.setIfInBounds_toArray, List.set_cons_zero, List.set_cons_succ])
            refine wpAnyH_ready (rs := [16]) (by kernel_rfl) (by simp) ?_
            refine AllReadyH.cons rfl (fun K hK => ?_) ?_
            · go_simp
              have kst := set1 w9 jb 2 (.slice co9 (n + 1) c9)
              refine hK.out _ _ ⟨kst.cell s9 (fun e => hbw (by cases e; rfl)), kst.cell s10 (fun e => hbw (by cases e; rfl)), trivial⟩ (fun hHeld2 => ?_)
              clear hK K hHeld
              have hHeld := hHeld2
              clear hHeld2
              (try simp only [Act.put, List.setIfInBounds_toArray, List.set_cons_zero, List.set_cons_succ])
              refine wpAnyH_done (by kernel_rfl) ?_ _
              go_wp2
              go_ret
              exact ⟨o3, k3, c3, co9, c9, rfl, add_fin D8 h.hB oc8 (fun j hj => by obtain ⟨s1, s2, s3, s4, s5, s6, b1, b2, b3, b4⟩ := oj j hj; exact ⟨s1, s2, s3, s4, s5, s6, b1, b2, ((b3.below h6 (Nat.le_refl _)).below h7 (Nat.le_refl _)).below k8 (Nat.le_refl _), ((b4.below h6 (Nat.le_refl _)).below h7 (Nat.le_refl _)).below k8 (Nat.le_refl _)⟩) (((f6.below h7 (Nat.le_refl _)).below k8 (Nat.le_refl _)).mono hBs) ((f7.below k8 (Nat.le_refl _)).mono (by omega)) own9 gr9 HC.out HX.out (by simp; omega)⟩
            exact AllReadyH.nil
          exact AllReadyH.nil
        exact AllReadyH.nil
      refine AllReadyH.cons rfl (fun K hK => ?_) ?_
      · go_simp
        refine hK.out _ _ ⟨D8.c0, D8.c1, trivial⟩ (fun hHeld2 => ?_)
        clear hK K hHeld
        have hHeld := hHeld2
        clear hHeld2
        (try simp only [Act.put, List.setIfInBounds_toArray, List.set_cons_zero, List.set_cons_succ])
        refine wpAnyH_ready (rs := [4]) (by kernel_rfl) (by simp) ?_
        refine AllReadyH.cons rfl (fun K hK => ?_) ?_
        · go_simp
          refine hK.out _ _ ⟨D8.c0, D8.c1, trivial⟩ (fun hHeld2 => ?_)
          clear hK K hHeld
          have hHeld := hHeld2
          clear hHeld2
          (try simp only [Act.put, List.setIfInBounds_toArray, List.set_cons_zero, List.set_cons_succ])
          refine wpAnyH_ready (rs := [13]) (by kernel_rfl) (by simp) ?_
          refine AllReadyH.cons rfl (fun K hK => ?_) ?_
          · (refine step_joinA rfl (.tmp 46) (.tmp 54) rfl B w7.heap.size go n gc cs (.slice o6 sn c6) (.slice o7 an c7) rfl rfl rfl rfl oc8 (allocNew w7 _) hn (by simp; omega) ?_; intro co9 c9 w9 own9 gr9; have bx9 := box_app oc8 gr9 bx8 (by decide); obtain ⟨_, _, e7, _, _, e8⟩ := box3 bx9; have s9 := gr9.cell D8.c0 (fun e => by have := nb _ e.symm; simp at this); have s10 := gr9.cell D8.c1 (fun e => by have := nb _ e.symm; simp at this))
            refine hK.out _ _ ⟨s9, s10, trivial⟩ (fun hHeld2 => ?_)
            clear hK K hHeld
            have hHeld := hHeld2
            clear hHeld2
            (try simp only [Act.put, List.setIfInBounds_toArray, List.set_cons_zero, List.set_cons_succ])
            refine wpAnyH_take (i := 14) (v := ?_) rfl (by kernel_rfl) (by kernel_rfl) (by kernel_rfl) (fun _ _ _ h => h) (Or.inl ⟨by rfl, ?_⟩) (by assumption) ?_
            rotate_left
            · (intro V hSw; (try dsimp only at hSw); go_simp; (try with_reducible rfl))
            (try simp only [Act.put, List.setIfInBounds_toArray, List.set_cons_zero, List.set_cons_succ])
            refine wpAnyH_take (i := 15) (v := ?_) rfl (by kernel_rfl) (by kernel_rfl) (by kernel_rfl) (fun _ _ _ h => h) (Or.inl ⟨by rfl, ?_⟩) (by assumption) ?_
            rotate_left
            · (intro V hSw; (try dsimp only at hSw); go_simp; (try with_reducible rfl))
            (try simp only [Act.put, List.setIfInBounds_toArray, List.set_cons_zero, List.set_cons_succ])
            refine wpAnyH_ready (rs := [16]) (by kernel_rfl) (by simp) ?_
            refine AllReadyH.cons rfl (fun K hK => ?_) ?_
            · go_simp
              have kst := set1 w9 jb 2 (.slice co9 (n + 1) c9)
              refine hK.out _ _ ⟨kst.cell s9 (fun e => hbw (by cases e; rfl)), kst.cell s10 (fun e => hbw (by cases e; rfl)), trivial⟩ (fun hHeld2 => ?_)
              clear hK K hHeld
              have hHeld := hHeld2
              clear hHeld2
              (try simp only [Act.put, List.setIfInBounds_toArray, List.set_cons_zero, List.set_cons_succ])
              refine wpAnyH_done (by kernel_rfl) ?_ _
              go_wp2
              go_ret
              exact ⟨o3, k3, c3, co9, c9, rfl, add_fin D8 h.hB oc8 (fun j hj => by obtain ⟨s1, s2, s3, s4, s5, s6, b1, b2, b3, b4⟩ := oj j hj; exact ⟨s1, s2, s3, s4, s5, s6, b1, b2, ((b3.below h6 (Nat.le_refl _)).below h7 (Nat.le_refl _)).below k8 (Nat.le_refl _), ((b4.below h6 (Nat.le_refl _)).below h7 (Nat.le_refl _)).below k8 (Nat.le_refl _)⟩) (((f6.below h7 (Nat.le_refl _)).below k8 (Nat.le_refl _)).mono hBs) ((f7.below k8 (Nat.le_refl _)).mono (by omega)) own9 gr9 HC.out HX.out (by simp; omega)⟩
            exact AllReadyH.nil
          exact AllReadyH.nil
        exact AllReadyH.nil
      exact AllReadyH.nil
    exact AllReadyH.nil
  exact AllReadyH.nil

end Go.Proofs.YtelcagfaflpolaaGreat
