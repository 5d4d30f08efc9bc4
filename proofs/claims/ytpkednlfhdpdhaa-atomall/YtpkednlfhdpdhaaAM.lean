
/- abacusref5.Monad. -/

import Derived.Test.YtpkednlfhdpdhaaA4

import Derived.Test.YtpkednlfhdpdhaaAB

import Derived.Test.YtpkednlfhdpdhaaT2

import Derived.Test.YtpkednlfhdpdhaaNRA

import Derived.Test.YtpkednlfhdpdhaaC4

namespace Go.Proofs.Ytpkednlfhdpdhaa

open Go.RowKit

set_option linter.unusedVariables false

theorem run_joinT {s e : TypeId} (ty : Ty s e) {w : World} (tt : TypeId) (B : Nat) (ao bo : Option Addr) (n cap m cap' : Nat) (zs ys : List Int) (h : Ft e w B ao n cap zs) (g : Rd w bo m ys) (gs : Sl bo m cap') (hr : (n + m) * 8 ≤ 140737488351232) (hB : B ≤ w.heap.size) :
    ∃ co c w', (Builtin.append_ #[s, s] tt #[.slice ao n cap, .slice bo m cap']).run Try.prog w = .ok (.slice co (n + m) c) w' ∧ Ft e w' B co (n + m) c (zs ++ ys) ∧ w.grownBy w' (Value.slice ao n cap).ownBlock := by
  obtain ⟨i0, hi, hz0, hz1, hz2⟩ := info_parts ty.info
  have hl := h.rd.len
  have gl := g.len
  have hnum : ∀ k, k < n + m → -9223372036854775808 ≤ nth (zs ++ ys) k ∧ nth (zs ++ ys) k ≤ 9223372036854775807 := by
    intro k hk
    by_cases c : k < n
    · have e : nth (zs ++ ys) k = nth zs k := by unfold nth; simp [List.getElem?_append, hl, c]
      rw [e]; exact h.rd.num k c
    · have e : nth (zs ++ ys) k = nth ys (k - n) := by unfold nth; simp [List.getElem?_append, hl, c]
      rw [e]; exact g.num _ (by omega)
  have fin : ∀ v w', w'.ownsRow B e 1 v (n + m) (zs.map (Value.int .i64) ++ ys.map (Value.int .i64)) → ∃ co c, v = .slice co (n + m) c ∧ Ft e w' B co (n + m) c (zs ++ ys) := fun v w' ho =>
    Ft.mk' (by simp [hl, gl]) hr hnum (by rw [List.map_append]; exact ho)
  cases bo with
  | none =>
    obtain ⟨rfl, rfl⟩ := gs.nil rfl
    have hy : ys = [] := List.eq_nil_of_length_eq_zero gl
    subst hy
    have hrun := run_append_owned_none (P := Try.prog) (w := w) B s tt e i0 1 ty.und hi _ n _ h.own
    refine ⟨ao, cap, w, hrun, ?_, World.grownBy.refl _ _⟩
    rw [List.append_nil]; exact h
  | some a =>
    have hnews : ∀ j u, (ys.map (Value.int .i64))[j]? = some u → w.cell? (a.add j) = some u := by
      intro j u hu
      have hj : j < m := by
        have := (List.getElem?_eq_some_iff.1 hu).1
        simpa [gl] using this
      obtain ⟨b, off, e, _, hc⟩ := g.cells (by omega)
      cases e
      exact Rd.news gl hc j u hu
    obtain ⟨v', w', hrun, hown, hgrow, _⟩ := run_append_own (P := Try.prog) w B s tt e i0 (.int .i64 0) 1 8 ty.und hi hz0 hz1 hz2 rfl (by decide) _ n _ h.own a m cap' (ys.map (Value.int .i64)) (by rw [List.length_map, gl, Nat.mul_one]) hnews (ints_one ys) (by unfold maxLen; omega) (by omega) hB
    obtain ⟨co, c, rfl, hf⟩ := fin _ _ hown
    exact ⟨co, c, w', hrun, hf, hgrow⟩
theorem wpList_joinT {s e : TypeId} (ty : Ty s e) {w : World} {ops : Array Oper} {rest : List Oper} {o : Oper} {a : Act} {Q : Exit → Act → World → Prop} (hgd : o.guard = none) (p x : Operand)
    (ho : o.op = .call { callee := .builtin .append, args := #[p, x], argTypes := #[s, s] }) (B : Nat) (ao bo : Option Addr) (n cap m cap' : Nat) (zs ys : List Int)
    (hs : a.eval p = .slice ao n cap) (hx : a.eval x = .slice bo m cap') (h : Ft e w B ao n cap zs) (g : Rd w bo m ys) (gs : Sl bo m cap') (hr : (n + m) * 8 ≤ 140737488351232) (hB : B ≤ w.heap.size)
    (hK : ∀ co c w', Ft e w' B co (n + m) c (zs ++ ys) → Below B w w' → wpList Try.prog ops Q rest (a.put o.dst (.slice co (n + m) c)) w') : wpList Try.prog ops Q (o :: rest) a w := by
  obtain ⟨co, c, w', hrun, hf, hg⟩ := run_joinT ty o.type B ao bo n cap m cap' zs ys h g gs hr hB
  refine wpList_append_run hgd p x s ho _ (by rw [hs, hx]; exact hrun) (hK _ _ _ hf ((Below.refl _ _).grown hg hB ?_))
  intro k e
  exact (h.own.lt k e).1
end Go.Proofs.Ytpkednlfhdpdhaa

namespace Go.Proofs.Ytpkednlfhdpdhaa

open Go.RowKit

set_option linter.unusedVariables false

/-- An answer under way: its box q, and the row that grows; all else is as it was at C. -/
structure Gw (C V : World) (q : Nat) (xo : Option Addr) (sn xc : Nat) (o : Option Addr) (k c : Nat) (zs : List Int) : Prop where
  a : V.heap[q]? = some (.cells #[.slice xo sn xc, .slice o k c] 30 (0, 0))
  l : Ft 2 V C.heap.size o k c zs
  g : C.grownBy V (some q)
  hq : q < C.heap.size
theorem Gw.below {C V V' : World} {q : Nat} {xo : Option Addr} {sn xc : Nat} {o : Option Addr} {k c : Nat} {zs : List Int} (h : Gw C V q xo sn xc o k c zs) (b : Below V.heap.size V V') : Gw C V' q xo sn xc o k c zs := by
  have hs := h.g.size
  exact ⟨(b.block q (by have := h.hq; omega)).trans h.a, h.l.below b (Nat.le_refl _), ⟨b.os.trans h.g.os, b.tape.trans h.g.tape, b.output.trans h.g.output, Nat.le_trans hs b.size, fun j hj hn => (b.block j (by omega)).trans (h.g.block j hj hn)⟩, h.hq⟩
theorem grown_set (W : World) (b i : Nat) (v : Value) : W.grownBy (W.setCell ⟨b, i, none⟩ v) (some b) :=
  ⟨rfl, rfl, rfl, by simp [World.setCell], fun k _ hn => Below.heap_setCell W ⟨b, i, none⟩ v k (fun e => hn (by rw [show k = b from e]))⟩
theorem gw_step {C V V1 : World} {q : Nat} {xo : Option Addr} {sn xc : Nat} {o : Option Addr} {k c : Nat} {zs : List Int} (h : Gw C V q xo sn xc o k c zs) (b : Below C.heap.size V V1) {co : Option Addr} {k' c' : Nat} {ys : List Int} (f : Ft 2 V1 C.heap.size co k' c' ys) :
    Gw C (V1.setCell ⟨q, 1, none⟩ (.slice co k' c')) q xo sn xc co k' c' ys := by
  have hs := h.g.size
  have hq := h.hq
  have e1 : V1.heap[q]? = some (.cells #[.slice xo sn xc, .slice o k c] 30 (0, 0)) := (b.block q hq).trans h.a
  have gs : V1.grownBy (V1.setCell ⟨q, 1, none⟩ (.slice co k' c')) (some q) := grown_set V1 q 1 _
  refine ⟨?_, f.keep1 gs (fun j off e => ?_), ⟨gs.os.trans (b.os.trans h.g.os), gs.tape.trans (b.tape.trans h.g.tape), gs.output.trans (b.output.trans h.g.output), Nat.le_trans hs (Nat.le_trans b.size gs.size), fun j hj hn => ?_⟩, hq⟩
  · rw [heap_setCell_same V1 q 1 _ _ _ e1]; rfl
  · have := (f.at j off e).1
    intro e'
    simp only [Option.some.injEq] at e'
    omega
  · have h1 := h.g.block j hj hn
    have h2 := b.block j hj
    have h3 := gs.block j (by have := b.size; omega) hn
    exact h3.trans (h2.trans h1)
theorem It.grown {w C V : World} {so : Option Addr} {sn sc : Nat} {ao : Option Addr} {an ac : Nat} {sh at' : List Int} {q : Nat} (h : It w C so sn sc ao an ac sh at') (rs : Rd w so sn sh) (ra : Rd w ao an at') (g : C.grownBy V (some q)) (hq : w.heap.size + 1 < q) : It w V so sn sc ao an ac sh at' := by
  have l0 := World.block_lt_of_cell? C _ h.c0
  have l1 := (Array.getElem?_eq_some_iff.1 h.r).1
  have l0' : w.heap.size < C.heap.size := l0
  have bl : Below w.heap.size w V := h.bel.grown g h.bel.size (fun k e => by cases e; omega)
  have b0 := g.block w.heap.size l0' (by intro e; simp only [Option.some.injEq] at e; omega)
  exact ⟨(World.cell?_of_block (w := C) b0).trans h.c0, (World.cell?_of_block (w := C) b0).trans h.c1, (g.block _ l1 (by intro e; simp only [Option.some.injEq] at e; omega)).trans h.r, rs.below bl (Nat.le_refl _), ra.below bl (Nat.le_refl _), bl⟩
theorem ft_box {e : TypeId} {w : World} {B : Nat} {ao : Option Addr} {n cap : Nat} {zs : List Int} (h : Ft e w B ao n cap zs) {j off r : Nat} (ea : ao = some ⟨j, off, none⟩) {cs : Array Value} (hr : w.heap[r]? = some (.cells cs 30 (0, 0))) (e' : some j = some r) (he : e ≠ 30 := by decide) : False := by
  simp only [Option.some.injEq] at e'
  subst e'
  obtain ⟨g, c, cur, h1, h2, h3, _⟩ := (h.own.2.resolve_left (fun x => by have := x.1; rw [ea] at this; cases this))
  rw [ea] at h1
  have : j = g := by simp at h1; exact h1.1.1
  subst this
  rw [hr] at h3
  simp only [Option.some.injEq, Obj.cells.injEq] at h3
  exact he h3.2.1.symm
theorem newL (V : World) (z : Int) (h0 : -9223372036854775808 ≤ z) (h1 : z ≤ 9223372036854775807) : Ft 2 (V.alloc (.cells #[.int .i64 z] 2)) V.heap.size (some ⟨V.heap.size, 0, none⟩) 1 1 [z] := ft_new 2 V [z] (by simp) (num1 h0 h1)
theorem take_more {l : List Int} {k : Nat} (h : k < l.length) : l.take k ++ [nth l k] = l.take (k + 1) := by
  rw [List.take_add_one]
  simp [nth, h]

theorem mo_bad {op : Int} {sh at' : List Int} (h : bdM op sh at' ≠ 0) : moE op sh at' = bdM op sh at' := by
  unfold bdM opM at h ⊢
  unfold moE
  by_cases c : mayA sh at' ≠ 0
  · rw [if_pos c, if_pos c]
  · rw [if_neg c] at h ⊢
    rw [if_neg c]
    by_cases d : lck (Nm.mE op 0) = true
    · rw [if_pos d, if_pos d]
    · rw [if_neg d] at h; exact absurd rfl h
theorem mo_ok {op : Int} {sh at' : List Int} (h : bdM op sh at' = 0) : mayA sh at' = 0 ∧ moE op sh at' = fe (at'.map (Nm.mE op)) := by
  unfold bdM opM at h
  unfold moE
  by_cases c : mayA sh at' ≠ 0
  · rw [if_pos c] at h; exact absurd h (by decide)
  · rw [if_neg c] at h
    rw [if_neg c]
    by_cases d : lck (Nm.mE op 0) = true
    · rw [if_pos d] at h; exact absurd h (lck_ne d)
    · rw [if_neg d]; exact ⟨by simpa using c, rfl⟩

set_option maxHeartbeats 4000000 in
set_option maxRecDepth 20000 in
theorem rmon_any (op : Int) (so ao : Option Addr) (sn sc an ac : Nat) (sh at' : List Int) (w : World) (h : Rd w so sn sh) (g : Rd w ao an at') :
    Calls Try.prog 18 #[.int .i64 op, .agg #[.slice so sn sc, .slice ao an ac]] w fun e w' => ∃ o1 n1 c1 o2 n2 c2, e = .returned (.tuple #[.agg #[.slice o1 n1 c1, .slice o2 n2 c2], .int .i64 (moE op sh at')]) ∧ Ft 3 w' w.heap.size o1 n1 c1 (moS op sh at') ∧ Ft 2 w' w.heap.size o2 n2 c2 (moA op sh at') ∧ Below w.heap.size w w' := by
  have I0 := it_start w so sn sc ao an ac sh at' h g
  have kb := box_below ((w.alloc (.cells #[.slice so sn sc, .slice ao an ac] 30)).alloc (.cells #[.slice none 0 0, .slice none 0 0] 30)) (.cells #[.slice so sn sc, .slice ao an ac] 30)
  have nb := allocNew ((w.alloc (.cells #[.slice so sn sc, .slice ao an ac] 30)).alloc (.cells #[.slice none 0 0, .slice none 0 0] 30)) (.cells #[.slice so sn sc, .slice ao an ac] 30)
  have I1 := I0.below kb
  rw [World.size_alloc, World.size_alloc] at nb
  have cB := bad1_any op _ so ao sn sc an ac sh at' _ nb I1.s I1.a
  by_cases hb : bdM op sh at' = 0
  · obtain ⟨my, hmo⟩ := mo_ok hb
    rw [hb] at cB
    have HS : Hid (moS op sh at' = onOk (fe (at'.map (Nm.mE op))) sh) := by show _ = _; unfold moS; rw [hmo]
    have HA : Hid (moA op sh at' = onOk (fe (at'.map (Nm.mE op))) (at'.map (Nm.mN op))) := by show _ = _; unfold moA; rw [hmo]
    have HM : Hid (moE op sh at' = fe (at'.map (Nm.mE op))) := hmo
    have gl : Hid (at'.length = an) := g.len
    have groom := g.room
    have hnum : Hid (∀ k, k < an → Nm.inr (nth at' k) = true) := fun k hk => by rw [Nm.inr_iff]; exact g.num k hk
    clear hb hmo my kb nb
    go_enter Try.func18, Try.ntmps18
    go_wp2_with (first
      | (go_at_call 29; (with_reducible refine cB.mono ?_); rintro e W2 ⟨rfl, k2⟩; have I2 := I1.below k2; have I2' := I2; obtain ⟨q0, q1, _, _, _, _⟩ := I2'; have rs := I2.s)
      | (at_builtin; refine wpList_copy rfl _ _ rfl _ _ _ _ rfl rfl rs ?_; intro o3 c3 W3 f3 h3; have I3 := I2.below h3; have kc := box_below W3 (.cells #[.slice o3 sn c3, .slice none 0 0] 30); have I4 := I3.below kc; have nq := allocNew W3 (.cells #[.slice o3 sn c3, .slice none 0 0] 30); have F4 := (Fr.ft f3).below kc (Nat.le_refl _)))
    have hq1 : w.heap.size + 1 < W3.heap.size := (Array.getElem?_eq_some_iff.1 I3.r).1
    have hq2 : W3.heap.size < (W3.alloc (.cells #[.slice o3 sn c3, .slice none 0 0] 30)).heap.size := by simp
    have w2s : w.heap.size ≤ W2.heap.size := I2.bel.size
    clear I0 I1 I2 I3 q0 q1 rs cB kc h3 k2
    generalize W3.alloc (.cells #[.slice o3 sn c3, .slice none 0 0] 30) = C at *
    generalize W3.heap.size = q at *
    have G0 : Gw C C q o3 sn c3 none 0 0 ((at'.map (Nm.mN op)).take 0) := ⟨nq, Ft.nil _ _ _, ⟨rfl, rfl, rfl, Nat.le_refl _, fun _ _ _ => rfl⟩, hq2⟩
    have nqC : C.heap[q]? = some (.cells #[.slice o3 sn c3, .slice none 0 0] 30 (0, 0)) := nq
    clear nq
    go_loopw [8] (fun i V => ∃ (k : Nat) (o : Option Addr) (c : Nat), k ≤ an ∧ i = .int .i64 (k : Nat) ∧ Hid (∀ j, j < k → Nm.mE op (nth at' j) = 0) ∧ Gw C V q o3 sn c3 o k c ((at'.map (Nm.mN op)).take k)) (fun i _ => an - (intOf i).toNat)
    case atStart => exact ⟨0, none, 0, Nat.zero_le _, rfl, fun j hj => by omega, G0⟩
    case round =>
      clear G0
      obtain ⟨k, o, c, hk, rfl, HE, GW⟩ := hrel
      have IV := I4.grown h g GW.g hq1
      have IV' := IV
      obtain ⟨q0, q1, _, _, _, _⟩ := IV'
      by_cases hlt : k < an
      · obtain ⟨b, off, rfl, hb, hcs⟩ := IV.a.cells (by omega)
        have c1 := hcs k hlt
        have hf := fun V => Nm.rmonad_any op (nth at' k) (hnum.out k hlt) V
        have bd := Nm.inr_iff.1 (Nm.inr_mN op (nth at' k) (hnum.out k hlt))
        have HT : Hid ((at'.map (Nm.mN op)).take k ++ [Nm.mN op (nth at' k)] = (at'.map (Nm.mN op)).take (k + 1)) := by
          show _ = _
          rw [← take_more (by rw [List.length_map, gl.out]; exact hlt), nth_maps (by rw [gl.out]; exact hlt)]
        clear hcs
        by_cases he : Nm.mE op (nth at' k) = 0
        · have HE2 : Hid (Nm.mE op (nth at' k) = 0) := he
          rw [he] at hf
          clear he
          generalize Nm.mN op (nth at' k) = v at *
          go_wp2_with (first
            | (go_at_call 30; (with_reducible refine (hf _).mono ?_); rintro e W5 ⟨rfl, n, hW5⟩; have G5 := GW.below (by rw [hW5]; exact below_drewN (Below.refl _ _) n : Below wr.heap.size wr W5); have b5 : Below C.heap.size wr W5 := (by rw [hW5]; exact below_drewN (Below.refl _ _) n); clear hW5; obtain ⟨y0, y1, _, _⟩ := box2 G5.a; have F1 := newL W5 v bd.1 bd.2; have kb := box_below W5 (.cells #[.int .i64 v] 2); have G6 := G5.below kb; have b6 : Below C.heap.size wr (W5.alloc (.cells #[.int .i64 v] 2)) := b5.trans (kb.mono G5.g.size); have hB6 : C.heap.size ≤ (W5.alloc (.cells #[.int .i64 v] 2)).heap.size := G6.g.size; obtain ⟨x0, x1, _, _⟩ := box2 G6.a)
            | (at_builtin; refine wpList_joinT tyL rfl _ _ rfl C.heap.size o (some ⟨W5.heap.size, 0, none⟩) k c 1 1 _ [v] rfl rfl G6.l F1.rd F1.sl (by omega) hB6 ?_; intro co3 cc3 W7 f7 b7; have b8 := b6.trans b7; obtain ⟨z0, z1, _, _⟩ := box2 ((b7.block q hq2).trans G6.a)))
          go_roundw
          case rel =>
            refine ⟨k + 1, co3, cc3, by omega, by go_num, fun j hj => ?_, ?_⟩
            · rcases Nat.lt_succ_iff_lt_or_eq.1 hj with h | h
              · exact HE.out j h
              · rw [h]; exact HE2.out
            · rw [← HT.out]; exact gw_step GW b8 f7
          case measure => simp [intOf]; omega
        · have HE2 : Hid (Nm.mE op (nth at' k) ≠ 0) := he
          have he' : (Nm.mE op (nth at' k) != 0) = true := by simpa using he
          have hfe : Hid (fe (at'.map (Nm.mE op)) = Nm.mE op (nth at' k)) := by
            show _ = _
            rw [fe_at _ k (by rw [List.length_map, gl.out]; exact hlt) (fun j hj => by rw [nth_maps (by rw [gl.out]; omega)]; exact HE.out j hj) (by rw [nth_maps (by rw [gl.out]; exact hlt)]; exact he), nth_maps (by rw [gl.out]; exact hlt)]
          clear he
          go_wp2_with (go_at_call 30; (with_reducible refine (hf _).mono ?_); rintro e W5 ⟨rfl, n, hW5⟩; have I5 := IV.below (by rw [hW5]; exact below_drewN (Below.refl _ _) n : Below wr.heap.size wr W5); clear hW5; obtain ⟨y0, y1, _, _⟩ := box2 I5.r)
          (try simp only [Exit.inBlock, Exit.then])
          refine bodyPost_ret (v := .tuple #[.agg #[.slice none 0 0, .slice none 0 0], .int .i64 (Nm.mE op (nth at' k))]) (by rw [results_cell_tmp rfl]; go_simp) rfl ?_
          rw [HM.out, HS.out, HA.out, hfe.out, onOk_no HE2.out, onOk_no HE2.out]
          exact ⟨none, 0, 0, none, 0, 0, rfl, Ft.nil _ _ _, Ft.nil _ _ _, below_set2 _ _ _ _ I5.bel (by omega) (Nat.le_refl _)⟩
      · obtain rfl : k = an := by omega
        have hfe : Hid (fe (at'.map (Nm.mE op)) = 0) := fe_none _ (fun j hj => by rw [List.length_map, gl.out] at hj; rw [nth_maps (by rw [gl.out]; exact hj)]; exact HE.out j hj)
        have HT : Hid ((at'.map (Nm.mN op)).take k = at'.map (Nm.mN op)) := List.take_of_length_le (by rw [List.length_map, gl.out]; exact Nat.le_refl _)
        obtain ⟨x0, x1, _, _⟩ := box2 GW.a
        obtain ⟨y0, y1, _, _⟩ := box2 IV.r
        have FS := F4.keep1 GW.g (fun j off e e' => ft_box F4 e nqC e')
        have FL := GW.l
        rw [HT.out] at FL
        go_wp2
        (try simp only [Exit.inBlock, Exit.then])
        refine bodyPost_ret (v := .tuple #[.agg #[.slice o3 sn c3, .slice o k c], .int .i64 0]) (by rw [results_cell_tmp rfl]; go_simp) rfl ?_
        rw [HM.out, HS.out, HA.out, hfe.out, onOk_ok rfl, onOk_ok rfl]
        refine ⟨_, _, _, _, _, _, rfl, (FS.keep1 (set2 _ _ _ _ _ _) (fun j off e => ?_)).mono w2s, (FL.keep1 (set2 _ _ _ _ _ _) (fun j off e => ?_)).mono (by omega), below_set2 _ _ _ _ IV.bel (by omega) (Nat.le_refl _)⟩
        · intro e'; exact ft_box FS e IV.r e'
        · intro e'; exact ft_box FL e IV.r e'
  · have HM : Hid (moE op sh at' = bdM op sh at') := mo_bad hb
    have HS : Hid (moS op sh at' = []) := by show _ = _; unfold moS; rw [HM.out]; exact onOk_no hb _
    have HA : Hid (moA op sh at' = []) := by show _ = _; unfold moA; rw [HM.out]; exact onOk_no hb _
    have hb' : (bdM op sh at' != 0) = true := by simpa using hb
    generalize bdM op sh at' = E at *
    clear hb kb nb
    go_enter Try.func18, Try.ntmps18
    go_wp2_with (go_at_call 29; (with_reducible refine cB.mono ?_); rintro e W2 ⟨rfl, k2⟩; have I2 := I1.below k2; obtain ⟨y0, y1, _, _⟩ := box2 I2.r)
    (try simp only [Exit.inBlock, Exit.then])
    refine bodyPost_ret (v := .tuple #[.agg #[.slice none 0 0, .slice none 0 0], .int .i64 E]) (by rw [results_cell_tmp rfl]; go_simp) rfl ?_
    rw [HM.out, HS.out, HA.out]
    exact ⟨none, 0, 0, none, 0, 0, rfl, Ft.nil _ _ _, Ft.nil _ _ _, below_set2 _ _ _ _ I2.bel (by omega) (Nat.le_refl _)⟩
end Go.Proofs.Ytpkednlfhdpdhaa
