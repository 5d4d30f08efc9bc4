
/- The document's answer for cells: One. -/

import Derived.Test.YtmepcenbaohcoaaGreatRSd

import Derived.Test.YtmepcenbaohcoaaGreatRefs3

namespace Go.Proofs.YtmepcenbaohcoaaGreat

open Go.RowKit

set_option linter.unusedVariables false

theorem prG_bd {sh : List Int} (h : mayF sh = 0) : 0 ≤ pr sh ∧ pr sh ≤ 4096 := by
  have := pr_small h sh.length (Nat.le_refl _)
  rwa [List.take_length] at this
theorem Fr.ftG {w : World} {B : Nat} {ao : Option Addr} {n cap : Nat} {zs : List Int} (h : Fr w B ao n cap zs) : Ft 3 w B ao n cap zs := ⟨h.rd, h.own⟩
theorem refMay4 (so ao : Option Addr) (sn sc an ac : Nat) (s a : List Int) (w : World) (h : Rd w so sn s) (g : Rd w ao an a) (my : mayA s a = 0) :
    Calls Tryz.prog 94 #[.agg #[.slice so sn sc, .slice ao an ac]] w fun e w' => e = .returned (.bool true) ∧ Below w.heap.size w w' := by
  have k0 := box_below w (.cells #[.slice so sn sc, .slice ao an ac] 30)
  have n0 := allocNew w (.cells #[.slice so sn sc, .slice ao an ac] 30)
  obtain ⟨m1, m2⟩ := mayA_zero my
  have cS := refSize_any so sn sc s _ (h.below k0 (Nat.le_refl _))
  have e1 : sizeF s = (an : Int) := by rw [sizeF_ok m1, ← m2, g.len]
  rw [m1, e1] at cS
  have tn : ((an : Int) == (an : Int)) = true := by simp
  obtain ⟨x0, x1, _, _⟩ := box2 n0
  clear m1 m2 my e1
  go_enter Tryz.func94, Tryz.ntmps94
  go_wp2_with (go_at_call 76; (with_reducible refine cS.mono ?_); rintro e V1 ⟨rfl, hV⟩; rw [hV]; clear hV)
  go_ret
  exact ⟨rfl, k0⟩
set_option maxHeartbeats 2000000 in
theorem refZeros4 (so : Option Addr) (sn sc : Nat) (s : List Int) (w : World) (h : Rd w so sn s) (hs : Sl so sn sc) (hm : mayF s = 0) :
    Calls Tryz.prog 96 #[.slice so sn sc] w fun e w' => ∃ l1 m1 d1 l2 m2 d2, e = .returned (.agg #[.slice l1 m1 d1, .slice l2 m2 d2]) ∧ Below w.heap.size w w' := by
  have k0 := box_below w (.cells #[.slice none 0 0, .slice none 0 0] 30)
  have bd := prG_bd hm
  have hrm := h.room
  obtain ⟨z, hz⟩ : ∃ z : Nat, pr s = (z : Int) := ⟨(pr s).toNat, by omega⟩
  have cC := fun V (k : Below w.heap.size w V) => refCount_any so sn sc s V (h.below k (Nat.le_refl _)) hm
  rw [hz] at cC bd
  have hmk := fun (X : World) => run_make_row' (P := Tryz.prog) 26 2 (.int .i64 0) 8 Tryz.underlying26 infoLQ rfl .i64 .i64 z (by omega) (by omega) X
  have r0 := h.below k0 (Nat.le_refl _)
  have s0 : w.heap.size ≤ (w.alloc (.cells #[.slice none 0 0, .slice none 0 0] 30)).heap.size := k0.size
  have hr2 : (0 + sn) * 8 ≤ 140737488351232 := by rw [Nat.zero_add]; exact hrm
  have nR := allocNew w (.cells #[.slice none 0 0, .slice none 0 0] 30)
  clear hz hm h
  go_enter Tryz.func96, Tryz.ntmps96
  go_wp2_with (first
    | (at_builtin; refine wpList_joinT tyI rfl _ _ rfl (w.alloc (.cells #[.slice none 0 0, .slice none 0 0] 30)).heap.size none so 0 0 sn sc [] s rfl rfl (Ft.nil _ _ _) r0 hs hr2 (Nat.le_refl _) ?_; intro co cc W5 f5 b5; have k5 : Below w.heap.size w W5 := k0.trans (b5.mono s0); have cC5 := cC W5 k5; have n5 := (b5.block w.heap.size (by simp)).trans nR; have kz := box_below W5 (.cells (madeCells #[.int .i64 0] z) 2); have n6 := (kz.block w.heap.size (Array.getElem?_eq_some_iff.1 n5).1).trans n5; obtain ⟨x0, x1, xf, xg⟩ := box2 n6)
    | (go_at_call 93; (with_reducible refine cC5.mono ?_); rintro e V1 ⟨rfl, hV⟩; rw [hV]; clear hV))
  (try simp only [Exit.inBlock, Exit.then])
  refine bodyPost_ret (v := .agg #[.slice co (0 + sn) cc, .slice (some ⟨W5.heap.size, 0, none⟩) z z]) (by simp [results, Tryz.results96]; go_simp) rfl ?_
  exact ⟨_, _, _, _, _, _, rfl, below_set2 _ _ _ _ (k5.trans (kz.mono k5.size)) (Nat.le_refl _) (Nat.le_refl _)⟩
/-- Cells under way: their box q, and the row of them; all else is as it was at C. -/
structure G4 (C V : World) (q : Nat) (v0 v2 v3 : Value) (go : Option Addr) (k gc : Nat) (xs : Nat → List Int × List Int) : Prop where
  a : V.heap[q]? = some (.cells #[v0, .slice go k gc, v2, v3] 74 (0, 0))
  v : Gv V C.heap.size go k gc xs
  g : C.grownBy V (some q)
  hq : q < C.heap.size
theorem g4_step {C V V1 : World} {q : Nat} {v0 v2 v3 : Value} {go : Option Addr} {k gc : Nat} {xs : Nat → List Int × List Int} (h : G4 C V q v0 v2 v3 go k gc xs) (b : Below C.heap.size V V1) {co : Option Addr} {k' c' : Nat} (f : Gv V1 C.heap.size co k' c' xs) :
    G4 C (V1.setCell ⟨q, 1, none⟩ (.slice co k' c')) q v0 v2 v3 co k' c' xs := by
  have hs := h.g.size
  have hq := h.hq
  have e1 := (b.block q hq).trans h.a
  have gs : V1.grownBy (V1.setCell ⟨q, 1, none⟩ (.slice co k' c')) (some q) := grown_set V1 q 1 _
  refine ⟨?_, f.kind gs e1 (by decide) (by decide) (by decide), ⟨gs.os.trans (b.os.trans h.g.os), gs.tape.trans (b.tape.trans h.g.tape), gs.output.trans (b.output.trans h.g.output), Nat.le_trans hs (Nat.le_trans b.size gs.size), fun j hj hn => ?_⟩, hq⟩
  · rw [heap_setCell_same V1 q 1 _ _ _ e1]; rfl
  · exact (gs.block j (by have := b.size; omega) hn).trans ((b.block j hj).trans (h.g.block j hj hn))
theorem G4.far {w0 C V : World} {q : Nat} {v0 v2 v3 : Value} {go : Option Addr} {k gc : Nat} {xs : Nat → List Int × List Int} (h : G4 C V q v0 v2 v3 go k gc xs) (b : Below w0.heap.size w0 C) (hq : w0.heap.size ≤ q) : Below w0.heap.size w0 V :=
  b.grown h.g b.size (fun k e => by cases e; exact hq)
theorem box4r {W : World} {g : Nat} {x y z u : Value} {t : TypeId} (h : W.heap[g]? = some (.cells #[x, y, z, u] t (0, 0))) :
    (W.cell? ⟨g, 0, none⟩ = some x ∧ W.cell? ⟨g, 1, none⟩ = some y ∧ W.cell? ⟨g, 2, none⟩ = some z ∧ W.cell? ⟨g, 3, none⟩ = some u) ∧ ∀ j, W.frozen? ⟨g, j, none⟩ = false :=
  ⟨⟨(cell_of_row W g 0 _ t (0, 0) h).trans rfl, (cell_of_row W g 1 _ t (0, 0) h).trans rfl, (cell_of_row W g 2 _ t (0, 0) h).trans rfl, (cell_of_row W g 3 _ t (0, 0) h).trans rfl⟩, fun j => frozen_of_row W g j _ t h⟩
theorem set4 (W : World) (b : Nat) (v0 v1 v2 v3 : Value) : W.grownBy ((((W.setCell ⟨b, 0, none⟩ v0).setCell ⟨b, 1, none⟩ v1).setCell ⟨b, 2, none⟩ v2).setCell ⟨b, 3, none⟩ v3) (some b) := by
  have h1 := set2 W b 0 1 v0 v1
  have h2 := set2 ((W.setCell ⟨b, 0, none⟩ v0).setCell ⟨b, 1, none⟩ v1) b 2 3 v2 v3
  exact ⟨h2.os.trans h1.os, h2.tape.trans h1.tape, h2.output.trans h1.output, Nat.le_trans h1.size h2.size, fun j hj hn => (h2.block j (Nat.lt_of_lt_of_le hj h1.size) hn).trans (h1.block j hj hn)⟩
theorem cuz_pr {s a : List Int} {p : Nat} (my : mayA s a = 0) (h : 0 < cun s p) : (cuz s a p : Int) = pr (s.drop p) := by
  have m2 := (mayA_zero my).2
  have e : pr s = pr (s.take p) * pr (s.drop p) := by rw [← pr_app, List.take_append_drop]
  unfold cun at h
  unfold cuz
  have e2 : ((pr (s.take p)).toNat : Int) = pr (s.take p) := by omega
  rw [Int.natCast_ediv, e2, m2, e, Int.mul_ediv_cancel_left _ (by omega)]
set_option maxHeartbeats 8000000 in
set_option maxRecDepth 20000 in
theorem refOne4 (so ao : Option Addr) (sn sc an ac : Nat) (s a : List Int) (r : Int) (p N z : Nat) (w : World) (h : Rd w so sn s) (hs : Sl so sn sc) (g : Rd w ao an a) (gs : Sl ao an ac) (my : mayA s a = 0) (r1 : -9223372036854775808 ≤ r) (r2 : r ≤ 9223372036854775807) (hp : sn - rankF sn r = p) (hN : cun s p = N) (hz : pr (s.drop p) = (z : Int)) (hpN : pr (s.take p) = (N : Int)) (mf : mayF (s.take p) = 0) (mc : mayF (s.drop p) = 0) (hle : N * z = an) (hN4 : N ≤ 4096) (hz4 : z ≤ 4096) (hX : ∀ k, k < N → cux s a p k = (s.drop p, (a.drop (k * z)).take z)) :
    Calls Tryz.prog 78 #[.agg #[.slice so sn sc, .slice ao an ac], .int .i64 r] w fun e w' => ∃ fo fc go gc l1 m1 d1 l2 m2 d2, e = .returned (.tuple #[.agg #[.slice fo p fc, .slice go N gc, .slice l1 m1 d1, .slice l2 m2 d2], .int .i64 0]) ∧ Ft 3 w' w.heap.size fo p fc (s.take p) ∧ Gv w' w.heap.size go N gc (cux s a p) ∧ Below w.heap.size w w' := by
  have k0 := box_below w (.cells #[.slice so sn sc, .slice ao an ac] 30)
  have n0 := allocNew w (.cells #[.slice so sn sc, .slice ao an ac] 30)
  have kR := box_below (w.alloc (.cells #[.slice so sn sc, .slice ao an ac] 30)) (.cells #[.slice none 0 0, .slice none 0 0, .slice none 0 0, .slice none 0 0] 74)
  have nR := allocNew (w.alloc (.cells #[.slice so sn sc, .slice ao an ac] 30)) (.cells #[.slice none 0 0, .slice none 0 0, .slice none 0 0, .slice none 0 0] 74)
  rw [World.size_alloc] at nR
  have n1 := (kR.block w.heap.size (by simp)).trans n0
  have k1 := k0.trans (kR.mono k0.size)
  have HR : Hid (∀ V, Below w.heap.size w V → Rd V so sn s ∧ Rd V ao an a) := fun V k => ⟨h.below k (Nat.le_refl _), g.below k (Nat.le_refl _)⟩
  have cM := refMay4 so ao sn sc an ac s a _ (HR.out _ k1).1 (HR.out _ k1).2 my
  have HS : Hid (∀ V, Below w.heap.size w V → _) := fun V k => refSplit_any so sn sc s r V (HR.out V k).1 hs r1 r2
  have HC : Hid (∀ fo fn fc (zs : List Int) V, Rd V fo fn zs → mayF zs = 0 → _) := fun fo fn fc zs V k hm => refCount_any fo fn fc zs V k hm
  have HZ : Hid (∀ fo fn fc (zs : List Int) V, Rd V fo fn zs → Sl fo fn fc → mayF zs = 0 → _) := fun fo fn fc zs V k hl hm => refZeros4 fo fn fc zs V k hl hm
  have HX : Hid (∀ k, k < N → cux s a p k = (s.drop p, (a.drop (k * z)).take z)) := hX
  have HM : Hid (N * z = an) := hle
  have HP : Hid (sn - rankF sn r = p) := hp
  have HZ2 : Hid (pr (s.drop p) = (z : Int)) := hz
  have HP2 : Hid (pr (s.take p) = (N : Int)) := hpN
  have hac := gs.le
  have hacm := gs.max
  obtain ⟨rk, hrk⟩ : ∃ rk, rankF sn r = rk := ⟨_, rfl⟩
  have hsn : sn ≤ 8 := by rw [← h.len]; exact (mayF_zero (mayA_zero my).1).2.1
  have hrk8 : rk ≤ 8 := by rw [← hrk]; have := rankF_le sn r; omega
  have hdl : (s.drop p).length = rk := by rw [List.length_drop, h.len, ← hp, hrk]; have := rankF_le sn r; omega
  have HS2 : Hid (∀ V, Below w.heap.size w V → Calls Tryz.prog 95 #[.slice so sn sc, .int .i64 r] V fun e w' => ∃ ao1 cap1 ao2 cap2, e = .returned (.tuple #[.slice ao1 p cap1, .slice ao2 rk cap2]) ∧ Ft 3 w' V.heap.size ao1 p cap1 (s.take p) ∧ Ft 3 w' V.heap.size ao2 rk cap2 (s.drop p) ∧ Below V.heap.size V w') := fun V k => by
    refine (HS.out V k).mono ?_
    rintro e w' ⟨ao1, cap1, ao2, cap2, rfl, f1, f2, _, kk⟩
    rw [hp, hrk] at *
    exact ⟨ao1, cap1, ao2, cap2, rfl, Fr.ftG f1, Fr.ftG f2, kk⟩
  obtain ⟨x0, x1, _, _⟩ := box2 n1
  have HDL : Hid ((s.drop p).length = rk) := hdl
  clear HS h g my hp hN hz hpN hX hle k0 n0 kR hrk hdl
  generalize cux s a p = xs at *
  go_enter Tryz.func78, Tryz.ntmps78
  go_wp2_with (first
    | (go_at_call 94; (with_reducible refine cM.mono ?_); rintro e V1 ⟨rfl, k2⟩; have b2 := k1.trans (k2.mono k1.size); have m1 := (k2.block w.heap.size (Array.getElem?_eq_some_iff.1 n1).1).trans n1; have mR := (k2.block (w.heap.size + 1) (Array.getElem?_eq_some_iff.1 nR).1).trans nR; have cS := HS2.out V1 b2; clear x0 x1 n1 nR cM k1 k2; obtain ⟨x0, x1, _, _⟩ := box2 m1)
    | (go_at_call 95; (with_reducible refine cS.mono ?_); rintro e V2 ⟨fo, fc, ci, cc, rfl, f1, f2, k3⟩; have b3 := b2.trans (k3.mono b2.size); have m2 := (k3.block w.heap.size (Array.getElem?_eq_some_iff.1 m1).1).trans m1; have mR2 := (k3.block (w.heap.size + 1) (Array.getElem?_eq_some_iff.1 mR).1).trans mR; have g1 := f1.mono b2.size; have g2 := f2.mono b2.size; have cZ := HZ.out ci rk cc (s.drop p) V2 f2.rd f2.sl mc; clear x0 x1 m1 mR cS k3 f1 f2)
    | (go_at_call 96; (with_reducible refine cZ.mono ?_); rintro e V3 ⟨l1, q1, d1, l2, q2, d2, rfl, k4⟩; have b4 := b3.trans (k4.mono b3.size); have m3 := (k4.block w.heap.size (Array.getElem?_eq_some_iff.1 m2).1).trans m2; have mR3 := (k4.block (w.heap.size + 1) (Array.getElem?_eq_some_iff.1 mR2).1).trans mR2; have h1 := g1.below k4 (Nat.le_refl _); have h2 := g2.below k4 (Nat.le_refl _); clear m2 mR2 g1 g2 k4 cZ; have kq := box_below V3 (.cells #[.slice fo p fc, .slice none 0 0, .slice l1 q1 d1, .slice l2 q2 d2] 74); have nq := allocNew V3 (.cells #[.slice fo p fc, .slice none 0 0, .slice l1 q1 d1, .slice l2 q2 d2] 74); have j2 := h2.below kq (Nat.le_refl _); have cC := HC.out ci rk cc (s.drop p) _ j2.rd mc; rw [HZ2.out] at cC)
    | (go_at_call 93; (with_reducible refine cC.mono ?_); rintro e V4 ⟨rfl, hV4⟩; rw [hV4]; clear hV4))
  have j1 := h1.below kq (Nat.le_refl _)
  have m4 := (kq.block w.heap.size (Array.getElem?_eq_some_iff.1 m3).1).trans m3
  have mR4 := (kq.block (w.heap.size + 1) (Array.getElem?_eq_some_iff.1 mR3).1).trans mR3
  have hq3 : w.heap.size + 1 < V3.heap.size := (Array.getElem?_eq_some_iff.1 mR3).1
  have sC : V3.heap.size < (V3.alloc (.cells #[.slice fo p fc, .slice none 0 0, .slice l1 q1 d1, .slice l2 q2 d2] 74)).heap.size := by simp
  have bC := b4.trans (kq.mono b4.size)
  clear m3 mR3 h1 h2 kq cC b4 b3 b2
  generalize V3.alloc (.cells #[.slice fo p fc, .slice none 0 0, .slice l1 q1 d1, .slice l2 q2 d2] 74) = C at *
  generalize V3.heap.size = q at *
  have G0 : G4 C C q (.slice fo p fc) (.slice l1 q1 d1) (.slice l2 q2 d2) none 0 0 xs := ⟨nq, Gv.nil _ _ _, ⟨rfl, rfl, rfl, Nat.le_refl _, fun _ _ _ => rfl⟩, sC⟩
  go_loopw [10] (fun i V => ∃ (k : Nat) (go : Option Addr) (gc : Nat), k ≤ N ∧ i = .int .i64 (k : Nat) ∧ G4 C V q (.slice fo p fc) (.slice l1 q1 d1) (.slice l2 q2 d2) go k gc xs) (fun i _ => N - (intOf i).toNat)
  case atStart => exact ⟨0, none, 0, Nat.zero_le _, rfl, G0⟩
  case round =>
    clear G0
    obtain ⟨k, go, gc, hk, rfl, GW⟩ := hrel
    have bV := GW.far bC (by omega)
    have hs' := GW.g.size
    have f1V := j1.kind GW.g nq (by decide)
    have nV := (GW.g.block w.heap.size (by omega) (by intro e; simp only [Option.some.injEq] at e; omega)).trans m4
    obtain ⟨z0, z1, _, _⟩ := box2 nV
    have cC := HC.out fo p fc (s.take p) wr f1V.rd mf
    rw [HP2.out] at cC
    by_cases hlt : k < N
    · have t1 : decide ((k : Int) < (N : Int)) = true := by simp; omega
      obtain ⟨lo, hlo⟩ : ∃ lo : Nat, lo = k * z := ⟨_, rfl⟩
      obtain ⟨hi, hhi⟩ : ∃ hi : Nat, hi = lo + z := ⟨_, rfl⟩
      have hle : hi ≤ an := by rw [hhi, hlo, ← Nat.succ_mul, ← HM.out]; exact Nat.mul_le_mul_right _ (by omega)
      have m1 : (k : Int) * (z : Int) = (lo : Int) := by rw [hlo]; simp
      have m2 : (lo : Int) + (z : Int) = (hi : Int) := by rw [hhi]; simp
      have hln : N * z ≤ 16777216 := Nat.mul_le_mul hN4 hz4
      rw [HM.out] at hln
      have w1' : IntKind.i64.wrap (lo : Int) = (lo : Int) := wrapIn _ (by omega)
      have w2' : IntKind.i64.wrap (hi : Int) = (hi : Int) := wrapIn _ (by omega)
      have c1 : (lo : Int) ≤ (hi : Int) := by omega
      have c2 : (hi : Int) ≤ (ac : Int) := by omega
      obtain ⟨p2, hp2⟩ : ∃ p2, (if ac = lo then ao else Option.map (fun x => x.add lo) ao) = p2 := ⟨_, rfl⟩
      have HSB : Hid (∀ V, Below w.heap.size w V → Rd V p2 (hi - lo) (xs k).2 ∧ Sl p2 (hi - lo) (ac - lo)) := fun V kk => by
        have := (HR.out V kk).2.subQ gs hp2 (show lo ≤ hi by omega) hle
        rw [HX.out k hlt]
        show Rd V p2 (hi - lo) ((a.drop (k * z)).take z) ∧ _
        rw [← hlo, show z = hi - lo by omega]
        exact this
      have HX1 : Hid ((xs k).1 = s.drop p) := by show _ = _; rw [HX.out k hlt]
      have f2V := j2.kind GW.g nq (by decide)
      obtain ⟨cs, ho, hel⟩ := GW.v
      clear hlo hhi
      go_wp2_with (go_at_call 93; (with_reducible refine cC.mono ?_); rintro e V4 ⟨rfl, hV4⟩; rw [hV4]; clear hV4 V4)
      have HS0 : wr.drew.cell? ⟨q, 1, none⟩ = some (.slice go k gc) ∧ wr.drew.cell? ⟨w.heap.size, 1, none⟩ = some (.slice ao an ac) := ⟨(box4r GW.a).1.2.1, z1⟩
      refine wp_region_R (fun V => V.cell? ⟨q, 1, none⟩ = some (.slice go k gc) ∧ V.cell? ⟨w.heap.size, 1, none⟩ = some (.slice ao an ac)) (fun i => i != 20) (by kernel_rfl) ?_
      refine wpAnyR_take (i := 0) (v := .pointer (some ⟨q, 1, none⟩)) rfl (by kernel_rfl) (by kernel_rfl) (by kernel_rfl) (by kernel_rfl) (fun _ _ _ h => h) (Or.inl ⟨by rfl, fun V hV => ?_⟩) ?_ ?_
      · obtain ⟨g0, g1⟩ := hV
        go_simp
      · exact HS0
      conv => arg 9; simp [Act.put]
      refine wpAnyR_take (i := 1) (v := .slice go k gc) rfl (by kernel_rfl) (by kernel_rfl) (by kernel_rfl) (by kernel_rfl) (fun _ _ _ h => h) (Or.inl ⟨by rfl, fun V hV => ?_⟩) ?_ ?_
      · obtain ⟨g0, g1⟩ := hV
        go_simp
      · exact HS0
      conv => arg 9; simp [Act.put]
      refine wpAnyR_take (i := 2) (v := .slice ci rk cc) rfl (by kernel_rfl) (by kernel_rfl) (by kernel_rfl) (by kernel_rfl) (fun _ _ _ h => h) (Or.inl ⟨by rfl, fun V hV => ?_⟩) ?_ ?_
      · obtain ⟨g0, g1⟩ := hV
        go_simp
      · exact HS0
      conv => arg 9; simp [Act.put]
      refine wpAnyR_take (i := 4) (v := .pointer (some ⟨w.heap.size, 1, none⟩)) rfl (by kernel_rfl) (by kernel_rfl) (by kernel_rfl) (by kernel_rfl) (fun _ _ _ h => h) (Or.inl ⟨by rfl, fun V hV => ?_⟩) ?_ ?_
      · obtain ⟨g0, g1⟩ := hV
        go_simp
      · exact HS0
      conv => arg 9; simp [Act.put]
      refine wpAnyR_take (i := 5) (v := .slice ao an ac) rfl (by kernel_rfl) (by kernel_rfl) (by kernel_rfl) (by kernel_rfl) (fun _ _ _ h => h) (Or.inl ⟨by rfl, fun V hV => ?_⟩) ?_ ?_
      · obtain ⟨g0, g1⟩ := hV
        go_simp
      · exact HS0
      conv => arg 9; simp [Act.put]
      refine wpAnyR_take (i := 6) (v := .int .i64 (k : Int)) rfl (by kernel_rfl) (by kernel_rfl) (by kernel_rfl) (by kernel_rfl) (fun _ _ _ h => h) (Or.inl ⟨by rfl, fun V hV => ?_⟩) ?_ ?_
      · obtain ⟨g0, g1⟩ := hV
        go_simp
      · exact HS0
      conv => arg 9; simp [Act.put]
      refine wpAnyR_take (i := 7) (v := .int .i64 (z : Int)) rfl (by kernel_rfl) (by kernel_rfl) (by kernel_rfl) (by kernel_rfl) (fun _ _ _ h => h) (Or.inl ⟨by rfl, fun V hV => ?_⟩) ?_ ?_
      · obtain ⟨g0, g1⟩ := hV
        go_simp
      · exact HS0
      conv => arg 9; simp [Act.put]
      refine wpAnyR_take (i := 8) (v := .int .i64 (lo : Int)) rfl (by kernel_rfl) (by kernel_rfl) (by kernel_rfl) (by kernel_rfl) (fun _ _ _ h => h) (Or.inl ⟨by rfl, fun V hV => ?_⟩) ?_ ?_
      · obtain ⟨g0, g1⟩ := hV
        go_simp
      · exact HS0
      conv => arg 9; simp [Act.put]
      refine wpAnyR_take (i := 9) (v := .int .i64 (k : Int)) rfl (by kernel_rfl) (by kernel_rfl) (by kernel_rfl) (by kernel_rfl) (fun _ _ _ h => h) (Or.inl ⟨by rfl, fun V hV => ?_⟩) ?_ ?_
      · obtain ⟨g0, g1⟩ := hV
        go_simp
      · exact HS0
      conv => arg 9; simp [Act.put]
      refine wpAnyR_take (i := 10) (v := .int .i64 (z : Int)) rfl (by kernel_rfl) (by kernel_rfl) (by kernel_rfl) (by kernel_rfl) (fun _ _ _ h => h) (Or.inl ⟨by rfl, fun V hV => ?_⟩) ?_ ?_
      · obtain ⟨g0, g1⟩ := hV
        go_simp
      · exact HS0
      conv => arg 9; simp [Act.put]
      refine wpAnyR_take (i := 11) (v := .int .i64 (lo : Int)) rfl (by kernel_rfl) (by kernel_rfl) (by kernel_rfl) (by kernel_rfl) (fun _ _ _ h => h) (Or.inl ⟨by rfl, fun V hV => ?_⟩) ?_ ?_
      · obtain ⟨g0, g1⟩ := hV
        go_simp
      · exact HS0
      conv => arg 9; simp [Act.put]
      refine wpAnyR_take (i := 12) (v := .int .i64 (z : Int)) rfl (by kernel_rfl) (by kernel_rfl) (by kernel_rfl) (by kernel_rfl) (fun _ _ _ h => h) (Or.inl ⟨by rfl, fun V hV => ?_⟩) ?_ ?_
      · obtain ⟨g0, g1⟩ := hV
        go_simp
      · exact HS0
      conv => arg 9; simp [Act.put]
      refine wpAnyR_take (i := 13) (v := .int .i64 (hi : Int)) rfl (by kernel_rfl) (by kernel_rfl) (by kernel_rfl) (by kernel_rfl) (fun _ _ _ h => h) (Or.inl ⟨by rfl, fun V hV => ?_⟩) ?_ ?_
      · obtain ⟨g0, g1⟩ := hV
        go_simp
      · exact HS0
      conv => arg 9; simp [Act.put]
      refine wpAnyR_take (i := 14) (v := .slice p2 (hi - lo) (ac - lo)) rfl (by kernel_rfl) (by kernel_rfl) (by kernel_rfl) (by kernel_rfl) (fun _ _ _ h => h) (Or.inl ⟨by rfl, fun V hV => ?_⟩) ?_ ?_
      · obtain ⟨g0, g1⟩ := hV
        go_simp
      · exact HS0
      conv => arg 9; simp [Act.put]
      refine wpAnyR_one (i := 3) (by kernel_rfl) rfl (fun K hK => ?_)
      refine step_joinW tyI rfl (.const (.slice none 0 0)) (.tmp 36) rfl C.heap.size rk none ci 0 0 rk cc [] (s.drop p) (by omega) (by simp [Act.eval]) (by simp [Act.eval]) (Ft.nil _ _ _) (f2V.rd.below (Below.refl _ _).drew (Nat.le_refl _)) f2V.sl (by omega) hs' ?_
      intro ca1 cc1 U1 fa1 ga1 aa1
      have ka1 : Below wr.heap.size wr U1 := ((Below.refl wr.heap.size wr).drew).trans ⟨ga1.os, ga1.tape, ga1.output, ga1.size, fun j hj => ga1.block j hj (by simp [Value.ownBlock])⟩
      have HS1 : U1.cell? ⟨q, 1, none⟩ = some (.slice go k gc) ∧ U1.cell? ⟨w.heap.size, 1, none⟩ = some (.slice ao an ac) := ⟨(ka1.cell (p := ⟨q, 1, none⟩) (show q < wr.heap.size by omega)).trans HS0.1, (ka1.cell (p := ⟨w.heap.size, 1, none⟩) (show w.heap.size < wr.heap.size by omega)).trans HS0.2⟩
      refine hK _ _ ⟨fun _ => HS1, ?_⟩
      clear hK
      conv => arg 9; simp [Act.put]
      refine wpAnyR_one (i := 15) (by kernel_rfl) rfl (fun K hK => ?_)
      obtain ⟨sb1, sb2⟩ := HSB.out U1 (bV.trans (ka1.mono bV.size))
      refine step_joinW tyL rfl (.const (.slice none 0 0)) (.tmp 48) rfl C.heap.size (hi - lo) none p2 0 0 (hi - lo) (ac - lo) [] (xs k).2 (by omega) (by simp [Act.eval]) (by simp [Act.eval]) (Ft.nil _ _ _) sb1 sb2 (by omega) (Nat.le_trans hs' ka1.size) ?_
      intro ca2 cc2 U2 fa2 ga2 aa2
      have ka2' : Below U1.heap.size U1 U2 := ⟨ga2.os, ga2.tape, ga2.output, ga2.size, fun j hj => ga2.block j hj (by simp [Value.ownBlock])⟩
      have ka2 : Below wr.heap.size wr U2 := ka1.trans (ka2'.mono ka1.size)
      have HS2 : U2.cell? ⟨q, 1, none⟩ = some (.slice go k gc) ∧ U2.cell? ⟨w.heap.size, 1, none⟩ = some (.slice ao an ac) := ⟨(ka2.cell (p := ⟨q, 1, none⟩) (show q < wr.heap.size by omega)).trans HS0.1, (ka2.cell (p := ⟨w.heap.size, 1, none⟩) (show w.heap.size < wr.heap.size by omega)).trans HS0.2⟩
      refine hK _ _ ⟨fun _ => HS2, ?_⟩
      clear hK
      conv => arg 9; simp [Act.put]
      refine wpAnyR_take (i := 16) (v := .agg #[.slice ca1 rk cc1, .slice ca2 (hi - lo) cc2]) rfl (by kernel_rfl) (by kernel_rfl) (by kernel_rfl) (by kernel_rfl) (fun _ _ _ h => h) (Or.inl ⟨by rfl, fun V hV => ?_⟩) ?_ ?_
      · obtain ⟨g0, g1⟩ := hV
        go_simp
      · exact HS2
      conv => arg 9; simp [Act.put]
      refine wpAnyR_one (i := 17) (by kernel_rfl) rfl (fun K hK => ?_)
      have kb := box_below U2 (.cells #[.slice ca1 rk cc1, .slice ca2 (hi - lo) cc2] 30)
      have ka3 : Below wr.heap.size wr (U2.alloc (.cells #[.slice ca1 rk cc1, .slice ca2 (hi - lo) cc2] 30)) := ka2.trans (kb.mono ka2.size)
      have HS3 : (U2.alloc (.cells #[.slice ca1 rk cc1, .slice ca2 (hi - lo) cc2] 30)).cell? ⟨q, 1, none⟩ = some (.slice go k gc) ∧ (U2.alloc (.cells #[.slice ca1 rk cc1, .slice ca2 (hi - lo) cc2] 30)).cell? ⟨w.heap.size, 1, none⟩ = some (.slice ao an ac) := ⟨(ka3.cell (p := ⟨q, 1, none⟩) (show q < wr.heap.size by omega)).trans HS0.1, (ka3.cell (p := ⟨w.heap.size, 1, none⟩) (show w.heap.size < wr.heap.size by omega)).trans HS0.2⟩
      go_simp
      refine hK _ _ ⟨fun _ => HS3, ?_⟩
      clear hK
      conv => arg 9; simp [Act.put]
      refine wpAnyR_one (i := 18) (by kernel_rfl) rfl (fun K hK => ?_)
      have vb3 := allocNew U2 (.cells #[.slice ca1 rk cc1, .slice ca2 (hi - lo) cc2] 30)
      have ho3 := own_below ho ka3 (Nat.le_refl _)
      refine step_joinA rfl (.tmp 35) (.tmp 51) rfl C.heap.size U2.heap.size go k gc cs (.slice ca1 rk cc1) (.slice ca2 (hi - lo) cc2) rfl rfl (by simp [Act.eval]) (by simp [Act.eval]) ho3 vb3 (by omega) (Nat.le_trans hs' ka3.size) ?_
      intro co9 cc9 W9 o9 g9
      have b9' := grows_below ho3 g9 (Nat.le_trans hs' ka3.size)
      have b9 : Below C.heap.size wr W9 := (ka3.mono hs').trans b9'
      have q9 := (b9.block q sC).trans GW.a
      have v9 : Gv W9 C.heap.size co9 (k + 1) cc9 xs := gv_push ho3 (fun j hj => (by
        obtain ⟨a1, a2, a3, a4, a5, a6, e1, e2, e3, e4⟩ := hel j hj
        exact ⟨a1, a2, a3, a4, a5, a6, e1, e2, e3.below ka3 (Nat.le_refl _), e4.below ka3 (Nat.le_refl _)⟩)) (by rw [HX1.out]; exact ((fa1.below ka2' (Nat.le_refl _)).below kb (Nat.le_refl _))) (fa2.below kb (Nat.le_refl _)) o9 g9
      have HS9 : W9.cell? ⟨q, 1, none⟩ = some (.slice go k gc) ∧ W9.cell? ⟨w.heap.size, 1, none⟩ = some (.slice ao an ac) := ⟨(box4r q9).1.2.1, (b9'.cell (p := ⟨w.heap.size, 1, none⟩) (show w.heap.size < C.heap.size by omega)).trans HS3.2⟩
      have F9 := (box4r q9).2 1
      refine hK _ _ ⟨fun _ => HS9, ?_⟩
      clear hK
      conv => arg 9; simp [Act.put]
      refine wpAnyR_one (i := 19) (by kernel_rfl) rfl (fun K hK => ?_)
      go_simp
      refine hK _ _ ⟨fun _ => HS9, ?_⟩
      clear hK
      conv => arg 9; simp [Act.put]
      refine wpAnyR_one (i := 20) (by kernel_rfl) rfl (fun K hK => ?_)
      go_simp
      refine hK _ _ ⟨fun h => absurd h (by decide), ?_⟩
      clear hK
      refine wpAnyR_done (by kernel_rfl) ?_ _
      go_wp2
      go_roundw
      case measure => simp [intOf]; omega
      case rel => exact ⟨k + 1, co9, cc9, by omega, by go_num, g4_step GW b9 v9⟩
    · obtain rfl : k = N := by omega
      have t1 : decide ((k : Int) < (k : Int)) = false := by simp
      have rV := (GW.g.block (w.heap.size + 1) (by omega) (by intro e; simp only [Option.some.injEq] at e; omega)).trans mR4
      obtain ⟨⟨x0, x1, x2, x3⟩, xf⟩ := box4r rV
      obtain ⟨⟨y0, y1, y2, y3⟩, _⟩ := box4r GW.a
      go_wp2_with (go_at_call 93; (with_reducible refine cC.mono ?_); rintro e V4 ⟨rfl, hV4⟩; rw [hV4]; clear hV4 V4)
      (try simp only [Exit.inBlock, Exit.then])
      refine bodyPost_ret (v := .tuple #[.agg #[.slice fo p fc, .slice go k gc, .slice l1 q1 d1, .slice l2 q2 d2], .int .i64 0]) (by rw [results_cell_tmp rfl]; go_simp) rfl ?_
      have st := set4 wr (w.heap.size + 1) (.slice fo p fc) (.slice go k gc) (.slice l1 q1 d1) (.slice l2 q2 d2)
      exact ⟨fo, fc, go, gc, _, _, _, _, _, _, rfl, f1V.kind st rV (by decide), gv_mono (GW.v.kind st rV (by decide) (by decide) (by decide)) (by have := bC.size; omega), bV.grown st bV.size (fun k e => by cases e; omega)⟩
end Go.Proofs.YtmepcenbaohcoaaGreat
