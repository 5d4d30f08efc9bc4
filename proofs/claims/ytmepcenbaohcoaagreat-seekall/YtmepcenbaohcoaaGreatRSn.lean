
/- The document's answers for package seek: Dyad of e. -/

import Derived.Test.YtmepcenbaohcoaaGreatRSm

namespace Go.Proofs.YtmepcenbaohcoaaGreat

open Go.RowKit

set_option linter.unusedVariables false

theorem ft_cells8 {W : World} {B : Nat} {o : Option Addr} {n cap : Nat} {zs : List Int} (h : Ft 2 W B o n cap zs) (hn : 0 < n) : ∃ g, o = some ⟨g, 0, none⟩ ∧ B ≤ g ∧ g < W.heap.size ∧ (∀ j, W.frozen? ⟨g, j, none⟩ = false) ∧ (∃ cur, W.heap[g]? = some (.cells cur 2 (0, 0))) ∧ ∀ j, j < n → W.cell? ⟨g, j, none⟩ = some (.int .i64 (nth zs j)) := by
  obtain ⟨g, c, cur, h1, h2, h3, h4⟩ := h.own.2.resolve_left (fun x => by have := x.2; omega)
  obtain ⟨b, off, e, hb, hc⟩ := h.rd.cells hn
  have eo : o = some ⟨g, 0, none⟩ := by cases h1; rfl
  rw [eo] at e
  cases e
  refine ⟨g, eo, h2, hb, fun j => frozen_of_row W g j _ _ h3, ⟨_, h3⟩, fun j hj => ?_⟩
  have := hc j hj
  rwa [Nat.zero_add] at this
/-- An answer in its box whose atoms are being written over. -/
structure Jq (V1 V : World) (q : Nat) (o1 : Option Addr) (p c1 : Nat) (o2 : Option Addr) (N c2 : Nat) (S ys : List Int) : Prop where
  a : V.heap[q]? = some (.cells #[.slice o1 p c1, .slice o2 N c2] 30 (0, 0))
  s : Ft 3 V V1.heap.size o1 p c1 S
  l : Ft 2 V V1.heap.size o2 N c2 ys
  bel : Below V1.heap.size V1 V
theorem Jq.below {V1 V V' : World} {q : Nat} {o1 : Option Addr} {p c1 : Nat} {o2 : Option Addr} {N c2 : Nat} {S ys : List Int} (h : Jq V1 V q o1 p c1 o2 N c2 S ys) (k : Below V.heap.size V V') : Jq V1 V' q o1 p c1 o2 N c2 S ys :=
  ⟨(k.block q (Array.getElem?_eq_some_iff.1 h.a).1).trans h.a, h.s.below k (Nat.le_refl _), h.l.below k (Nat.le_refl _), h.bel.trans (k.mono h.bel.size)⟩
theorem Jq.set {V1 V : World} {q g : Nat} {o1 : Option Addr} {p c1 : Nat} {N c2 : Nat} {S ys : List Int} (h : Jq V1 V q o1 p c1 (some ⟨g, 0, none⟩) N c2 S ys) {k : Nat} (hk : k < N) (u : Int) (h1 : -9223372036854775808 ≤ u) (h2 : u ≤ 9223372036854775807) : Jq V1 (V.setCell ⟨g, k, none⟩ (.int .i64 u)) q o1 p c1 (some ⟨g, 0, none⟩) N c2 S (ys.set k u) := by
  obtain ⟨g', eg, hB, _, _, ⟨cur, hr⟩, _⟩ := ft_cells8 h.l (by omega)
  cases eg
  have gs := grown_set V g k (.int .i64 u)
  have hne : some q ≠ some g := fun e => by
    cases e
    rw [h.a] at hr
    simp only [Option.some.injEq, Obj.cells.injEq] at hr
    exact absurd hr.2.1 (by decide)
  exact ⟨(gs.block q (Array.getElem?_eq_some_iff.1 h.a).1 hne).trans h.a, h.s.kind gs hr (by decide), h.l.setY k hk u h1 h2, bgS _ h.bel hB⟩

set_option maxHeartbeats 8000000 in
set_option maxRecDepth 20000 in
theorem rd_35 (so ao uo bo : Option Addr) (sn sc an ac tn tc bn bc : Nat) (s a t b : List Int) (w : World) (hs : Rd w so sn s) (ss : Sl so sn sc) (ha : Rd w ao an a) (sa : Sl ao an ac) (ht : Rd w uo tn t) (st : Sl uo tn tc) (hb : Rd w bo bn b) (sb : Sl bo bn bc) (mx : mayA s a = 0) (my : mayA t b = 0) :
    Calls Tryz.prog 18 #[.int .i64 35, .agg #[.slice so sn sc, .slice ao an ac], .agg #[.slice uo tn tc, .slice bo bn bc]] w fun e w' => AnsQ w (fun S A => S = s.take (frN s.length t.length) ∧ A = ecL (tI (itX t b) (itN t)) (cux s a (frN s.length t.length)) (cun s (frN s.length t.length))) 0 e w' := by
  have HOK : true = true ↔ ∀ j, j < 2 → mayA ((fun j => if j = 0 then (s, a) else (t, b)) j).1 ((fun j => if j = 0 then (s, a) else (t, b)) j).2 = 0 := ⟨fun _ j hj => (by
    show mayA (if j = 0 then (s, a) else (t, b)).1 (if j = 0 then (s, a) else (t, b)).2 = 0
    by_cases h : j = 0
    · rw [if_pos h]; exact mx
    · rw [if_neg h]; exact my), fun _ => rfl⟩
  have HBD : bdS 35 2 true = 0 := by decide
  have D0 := du_startQ w so sn sc ao an ac uo tn tc bo bn bc
  have uz := D0.sz
  have kA := box_below (((w.alloc (.cells #[.slice so sn sc, .slice ao an ac] 30)).alloc (.cells #[.slice uo tn tc, .slice bo bn bc] 30)).alloc (.cells #[.slice none 0 0, .slice none 0 0] 30)) (.cells #[.slice so sn sc, .slice ao an ac, .slice uo tn tc, .slice bo bn bc] 30)
  have DA := D0.below kA uz
  have AA := as_two (sc := sc) (ac := ac) (tc := tc) (bc := bc) _ (hs.below D0.bel (Nat.le_refl _)) ss (ha.below D0.bel (Nat.le_refl _)) sa (ht.below D0.bel (Nat.le_refl _)) st (hb.below D0.bel (Nat.le_refl _)) sb
  have cB := refBad7 35 2 _ 2 2 (fun j => if j = 0 then (s, a) else (t, b)) true _ AA (by omega) HOK
  rw [show bdS 35 2 true = 0 from HBD] at cB
  simp only [World.size_alloc] at cB
  obtain ⟨q0, q1, _, _⟩ := box2 D0.x
  obtain ⟨p0, p1, _, _⟩ := box2 D0.y
  have HRB : Hid (∀ V, Below w.heap.size w V → (Rd V so sn s ∧ Rd V ao an a) ∧ (Rd V uo tn t ∧ Rd V bo bn b)) := fun V k => ⟨⟨hs.below k (Nat.le_refl _), ha.below k (Nat.le_refl _)⟩, ⟨ht.below k (Nat.le_refl _), hb.below k (Nat.le_refl _)⟩⟩
  have uzA := DA.sz
  clear HOK HBD
  have m1 := (mayA_zero mx).1
  have m2 := (mayA_zero my).1
  have hn4 : itN t ≤ 4096 := by
    have := itN_tal m2
    have := tal_bd m2
    omega
  have hN4 : cun s (frN s.length t.length) ≤ 4096 := by
    have := prG_bd (mayF_takeQ m1 (frN s.length t.length))
    unfold cun
    omega
  have HC : Hid (∀ V, Below w.heap.size w V → _) := fun V k => refFoundQ uo bo so ao tn tc bn bc sn sc an ac t b s a V (HRB.out V k).2.1 st (HRB.out V k).2.2 sb (HRB.out V k).1.1 ss (HRB.out V k).1.2 sa my mx
  have HI : Hid (∀ V, Below w.heap.size w V → Calls Tryz.prog 33 #[.agg #[.slice uo tn tc, .slice bo bn bc]] V fun e w' => e = .returned (.int .i64 ((itN t : Nat) : Int)) ∧ Below V.heap.size V w') := fun V k => refItmN uo bo tn tc bn bc t b V (HRB.out V k).2.1 (HRB.out V k).2.2 my
  have HPL : Hid (∀ j, j < cun s (frN s.length t.length) → nth (ecL (tP (itX t b) (itN t)) (cux s a (frN s.length t.length)) (cun s (frN s.length t.length))) j = ((fsq (itX t b) (itN t) (cux s a (frN s.length t.length) j) : Nat) : Int)) := fun j hj => ecL_nth hj
  have HQL : Hid (∀ j, j < cun s (frN s.length t.length) → nth (ecL (tI (itX t b) (itN t)) (cux s a (frN s.length t.length)) (cun s (frN s.length t.length))) j = if fsq (itX t b) (itN t) (cux s a (frN s.length t.length) j) < itN t then 1 else 0) := fun j hj => ecL_nth hj
  have HPN : Hid ((ecL (tP (itX t b) (itN t)) (cux s a (frN s.length t.length)) (cun s (frN s.length t.length))).length = cun s (frN s.length t.length)) := ecL_len _ _ _
  have HQN : Hid ((ecL (tI (itX t b) (itN t)) (cux s a (frN s.length t.length)) (cun s (frN s.length t.length))).length = cun s (frN s.length t.length)) := ecL_len _ _ _
  have HFL : Hid (∀ j, fsq (itX t b) (itN t) (cux s a (frN s.length t.length) j) ≤ itN t) := fun j => fsq_le _ _ _
  generalize ecL (tP (itX t b) (itN t)) (cux s a (frN s.length t.length)) (cun s (frN s.length t.length)) = ps at *
  generalize ecL (tI (itX t b) (itN t)) (cux s a (frN s.length t.length)) (cun s (frN s.length t.length)) = es at *
  generalize (fun j => fsq (itX t b) (itN t) (cux s a (frN s.length t.length) j)) = fq at *
  generalize s.take (frN s.length t.length) = S1 at *
  generalize cun s (frN s.length t.length) = N at *
  generalize cux s a (frN s.length t.length) = cx at *
  generalize (frN s.length t.length) = p at *
  generalize itX t b = zs at *
  generalize itN t = n at *
  go_enter Tryz.func18, Tryz.ntmps18
  go_wp2_with (first
    | (go_at_call 22; (with_reducible refine cB.mono ?_); rintro e V1 ⟨rfl, k1⟩; have D1 := DA.below k1 (by first | exact uzA | omega); have uz1 := D1.sz; have b1 := D1.bel; clear q0 q1 p0 p1 cB k1 kA D0 DA AA; obtain ⟨q0, q1, _, _⟩ := box2 D1.x; obtain ⟨p0, p1, _, _⟩ := box2 D1.y; obtain ⟨r0, r1, r2, r3⟩ := box2 D1.r; have cC := HC.out V1 b1)
    | (go_at_call 32; (with_reducible refine cC.mono ?_); rintro e V2 ⟨o1, c1, o2, c2, rfl, f1, f2, k2⟩))
  have HD1 : Hid (DuQ w V1 so sn sc ao an ac uo tn tc bo bn bc) := D1
  have D2 := D1.below k2 uz1
  have hq2 : w.heap.size + 3 ≤ V2.heap.size := D2.sz
  have kq := box_below V2 (.cells #[.slice o1 p c1, .slice o2 N c2] 30)
  have J0 : Jq V1 (V2.alloc (.cells #[.slice o1 p c1, .slice o2 N c2] 30)) V2.heap.size o1 p c1 o2 N c2 S1 ps := ⟨allocNew V2 _, f1.below kq (Nat.le_refl _), f2.below kq (Nat.le_refl _), k2.trans (kq.mono k2.size)⟩
  clear q0 q1 p0 p1 r0 r1 r2 r3 D1 D2 kq f1 f2 cC k2
  generalize V2.alloc (.cells #[.slice o1 p c1, .slice o2 N c2] 30) = C at *
  generalize V2.heap.size = q at *
  go_loopw [13] (fun i V => ∃ (k : Nat) (ys : List Int), k ≤ N ∧ i = .int .i64 (k : Nat) ∧ Hid (ys.length = N ∧ ∀ j, j < N → nth ys j = if j < k then nth es j else nth ps j) ∧ Jq V1 V q o1 p c1 o2 N c2 S1 ys) (fun i _ => N - (intOf i).toNat)
  case atStart => exact ⟨0, ps, Nat.zero_le _, rfl, ⟨HPN.out, fun j hj => by rw [if_neg (by omega)]⟩, J0⟩
  case round =>
    clear J0
    obtain ⟨k, ys, hk, rfl, HY, JV⟩ := hrel
    have DV := HD1.out.below JV.bel uz1
    have uzV := DV.sz
    obtain ⟨y0, y1, yf, yg⟩ := box2 JV.a
    obtain ⟨z0, z1, _, _⟩ := box2 DV.y
    by_cases hlt : k < N
    · have hN0 : 0 < N := by omega
      have t1 : decide ((k : Int) < (N : Int)) = true := by simp; omega
      have t2 : (k : Int) < (N : Int) := by omega
      obtain ⟨g, rfl, hg1, hgw, hgf, _, hgc⟩ := ft_cells8 JV.l hN0
      have d0 := hgc k hlt
      have hp := HPL.out k hlt
      have hq := HQL.out k hlt
      have hfl := HFL.out k
      rw [HY.out.2 k hlt, if_neg (by omega), hp] at d0
      obtain ⟨f, hf⟩ : ∃ f, fsq zs n (cx k) = f := ⟨_, rfl⟩
      rw [hf] at d0 hq hfl
      have bd := DV.bel.drew
      have cI := HI.out wr.drew bd
      obtain ⟨ob, hob⟩ : ∃ ob, decide ((f : Int) < (n : Int)) = ob := ⟨_, rfl⟩
      have hob2 : decide (f < n) = ob := by rw [← hob]; congr 1; simp
      have cO := fun V => refOne7 ob V
      obtain ⟨v, hv⟩ : ∃ v : Int, (if ob = true then (1 : Int) else 0) = v := ⟨_, rfl⟩
      rw [hv] at cO
      have vb : -9223372036854775808 ≤ v ∧ v ≤ 9223372036854775807 := by rw [← hv]; split <;> omega
      have HE : Hid (nth es k = v) := by
        show _ = _
        rw [hq, ← hv, ← hob2]
        by_cases c : f < n
        · rw [if_pos c, if_pos (by simpa using c)]
        · rw [if_neg c, if_neg (by simpa using c)]
      have hqw : q < wr.heap.size := (Array.getElem?_eq_some_iff.1 JV.a).1
      have hyw : w.heap.size + 1 < wr.heap.size := by omega
      have wf : IntKind.i64.wrap (n : Int) = (n : Int) := wrapIn _ (by omega)
      clear hp hq hf hgc hgf hv
      have HS : wr.drew.cell? ⟨q, 1, none⟩ = some (.slice (some ⟨g, 0, none⟩) N c2) ∧ wr.drew.cell? ⟨g, k, none⟩ = some (.int .i64 (f : Int)) ∧ wr.drew.cell? ⟨w.heap.size + 1, 0, none⟩ = some (.slice uo tn tc) ∧ wr.drew.cell? ⟨w.heap.size + 1, 1, none⟩ = some (.slice bo bn bc) := ⟨y1, d0, z0, z1⟩
      go_wp2
      refine wp_region_R (fun V => V.cell? ⟨q, 1, none⟩ = some (.slice (some ⟨g, 0, none⟩) N c2) ∧ V.cell? ⟨g, k, none⟩ = some (.int .i64 (f : Int)) ∧ V.cell? ⟨w.heap.size + 1, 0, none⟩ = some (.slice uo tn tc) ∧ V.cell? ⟨w.heap.size + 1, 1, none⟩ = some (.slice bo bn bc)) (fun i => i != 13) (by kernel_rfl) ?_
      refine wpAnyR_take (i := 0) (v := .pointer (some ⟨q, 1, none⟩)) rfl (by kernel_rfl) (by kernel_rfl) (by kernel_rfl) (by kernel_rfl) (fun _ _ _ h => h) (Or.inl ⟨by rfl, fun V hV => ?_⟩) ?_ ?_
      · obtain ⟨g0, g1, g2, g3⟩ := hV
        go_simp
      · exact HS
      conv => arg 9; simp [Act.put]
      refine wpAnyR_take (i := 1) (v := .slice (some ⟨g, 0, none⟩) N c2) rfl (by kernel_rfl) (by kernel_rfl) (by kernel_rfl) (by kernel_rfl) (fun _ _ _ h => h) (Or.inl ⟨by rfl, fun V hV => ?_⟩) ?_ ?_
      · obtain ⟨g0, g1, g2, g3⟩ := hV
        go_simp
      · exact HS
      conv => arg 9; simp [Act.put]
      refine wpAnyR_take (i := 2) (v := .int .i64 (k : Int)) rfl (by kernel_rfl) (by kernel_rfl) (by kernel_rfl) (by kernel_rfl) (fun _ _ _ h => h) (Or.inl ⟨by rfl, fun V hV => ?_⟩) ?_ ?_
      · obtain ⟨g0, g1, g2, g3⟩ := hV
        go_simp
      · exact HS
      conv => arg 9; simp [Act.put]
      refine wpAnyR_take (i := 3) (v := .pointer (some ⟨q, 1, none⟩)) rfl (by kernel_rfl) (by kernel_rfl) (by kernel_rfl) (by kernel_rfl) (fun _ _ _ h => h) (Or.inl ⟨by rfl, fun V hV => ?_⟩) ?_ ?_
      · obtain ⟨g0, g1, g2, g3⟩ := hV
        go_simp
      · exact HS
      conv => arg 9; simp [Act.put]
      refine wpAnyR_take (i := 4) (v := .slice (some ⟨g, 0, none⟩) N c2) rfl (by kernel_rfl) (by kernel_rfl) (by kernel_rfl) (by kernel_rfl) (fun _ _ _ h => h) (Or.inl ⟨by rfl, fun V hV => ?_⟩) ?_ ?_
      · obtain ⟨g0, g1, g2, g3⟩ := hV
        go_simp
      · exact HS
      conv => arg 9; simp [Act.put]
      refine wpAnyR_take (i := 5) (v := .int .i64 (k : Int)) rfl (by kernel_rfl) (by kernel_rfl) (by kernel_rfl) (by kernel_rfl) (fun _ _ _ h => h) (Or.inl ⟨by rfl, fun V hV => ?_⟩) ?_ ?_
      · obtain ⟨g0, g1, g2, g3⟩ := hV
        go_simp
      · exact HS
      conv => arg 9; simp [Act.put]
      refine wpAnyR_take (i := 6) (v := .pointer (some ⟨g, k, none⟩)) rfl (by kernel_rfl) (by kernel_rfl) (by kernel_rfl) (by kernel_rfl) (fun _ _ _ h => h) (Or.inl ⟨by rfl, fun V hV => ?_⟩) ?_ ?_
      · obtain ⟨g0, g1, g2, g3⟩ := hV
        go_simp
      · exact HS
      conv => arg 9; simp [Act.put]
      refine wpAnyR_take (i := 7) (v := .int .i64 (f : Int)) rfl (by kernel_rfl) (by kernel_rfl) (by kernel_rfl) (by kernel_rfl) (fun _ _ _ h => h) (Or.inl ⟨by rfl, fun V hV => ?_⟩) ?_ ?_
      · obtain ⟨g0, g1, g2, g3⟩ := hV
        go_simp
      · exact HS
      conv => arg 9; simp [Act.put]
      refine wpAnyR_take (i := 8) (v := .agg #[.slice uo tn tc, .slice bo bn bc]) rfl (by kernel_rfl) (by kernel_rfl) (by kernel_rfl) (by kernel_rfl) (fun _ _ _ h => h) (Or.inl ⟨by rfl, fun V hV => ?_⟩) ?_ ?_
      · obtain ⟨g0, g1, g2, g3⟩ := hV
        go_simp
      · exact HS
      conv => arg 9; simp [Act.put]
      refine wpAnyR_one (i := 9) (by kernel_rfl) rfl (fun K hK => ?_)
      go_simp
      go_wp2_with (go_at_call 33; (with_reducible refine cI.mono ?_); rintro e V5 ⟨rfl, k5⟩; have kA : Below wr.heap.size wr V5 := ((Below.refl wr.heap.size wr).drew).trans k5; have JA := JV.below kA; have HSA : V5.cell? ⟨q, 1, none⟩ = some (.slice (some ⟨g, 0, none⟩) N c2) ∧ V5.cell? ⟨g, k, none⟩ = some (.int .i64 (f : Int)) ∧ V5.cell? ⟨w.heap.size + 1, 0, none⟩ = some (.slice uo tn tc) ∧ V5.cell? ⟨w.heap.size + 1, 1, none⟩ = some (.slice bo bn bc) := ⟨(kA.cell (p := ⟨q, 1, none⟩) hqw).trans y1, (kA.cell (p := ⟨g, k, none⟩) hgw).trans d0, (kA.cell (p := ⟨w.heap.size + 1, 0, none⟩) hyw).trans z0, (kA.cell (p := ⟨w.heap.size + 1, 1, none⟩) hyw).trans z1⟩; refine hK _ _ ⟨fun _ => HSA, ?_⟩; clear hK)
      conv => arg 9; simp [Act.put]
      refine wpAnyR_take (i := 10) (v := .bool ob) rfl (by kernel_rfl) (by kernel_rfl) (by kernel_rfl) (by kernel_rfl) (fun _ _ _ h => h) (Or.inl ⟨by rfl, fun V hV => ?_⟩) ?_ ?_
      · obtain ⟨g0, g1, g2, g3⟩ := hV
        go_simp
      · exact HSA
      conv => arg 9; simp [Act.put]
      refine wpAnyR_one (i := 11) (by kernel_rfl) rfl (fun K hK => ?_)
      go_simp
      go_wp2_with (go_at_call 26; (with_reducible refine (cO V5).mono ?_); rintro e V6 ⟨rfl, hV6⟩; rw [hV6]; clear hV6; refine hK _ _ ⟨fun _ => HSA, ?_⟩; clear hK)
      have zf5 : V5.frozen? ⟨g, k, none⟩ = false := by
        obtain ⟨g', eg, _, _, h4, _⟩ := ft_cells8 JA.l hN0
        cases eg
        exact h4 k
      conv => arg 9; simp [Act.put]
      refine wpAnyR_one (i := 12) (by kernel_rfl) rfl (fun K hK => ?_)
      go_simp
      refine hK _ _ ⟨fun _ => HSA, ?_⟩
      clear hK
      conv => arg 9; simp [Act.put]
      refine wpAnyR_one (i := 13) (by kernel_rfl) rfl (fun K hK => ?_)
      go_simp
      refine hK _ _ ⟨fun h => absurd h (by decide), ?_⟩
      clear hK
      refine wpAnyR_done (by kernel_rfl) ?_ _
      go_wp2
      go_roundw
      case measure => simp [intOf]; omega
      case rel =>
        refine ⟨k + 1, ys.set k v, by omega, by go_num, ⟨by rw [List.length_set]; exact HY.out.1, fun j hj => ?_⟩, JA.set hlt v vb.1 vb.2⟩
        rw [nth_setY (by rw [HY.out.1]; exact hlt)]
        by_cases ej : j = k
        · rw [if_pos ej, if_pos (by omega), ej, HE.out]
        · rw [if_neg ej, HY.out.2 j hj]
          by_cases el : j < k
          · rw [if_pos el, if_pos (by omega)]
          · rw [if_neg el, if_neg (by omega)]
    · obtain rfl : k = N := by omega
      have t1 : decide ((k : Int) < (k : Int)) = false := by simp
      obtain ⟨x0, x1, xf, xg⟩ := box2 DV.r
      have ey : ys = es := by
        refine ext_nth (by rw [HY.out.1, HQN.out]) fun j hj => ?_
        rw [HY.out.1] at hj
        rw [HY.out.2 j hj, if_pos hj]
      go_wp2
      (try simp only [Exit.inBlock, Exit.then])
      refine bodyPost_ret (v := .tuple #[.agg #[.slice o1 p c1, .slice o2 k c2], .int .i64 0]) (by rw [results_cell_tmp rfl]; go_simp) rfl ?_
      have gl := JV.l
      rw [ey] at gl
      exact AnsQ.two JV.s gl HD1.out.bel.size HD1.out.bel.size DV.r (by omega) DV.bel
end Go.Proofs.YtmepcenbaohcoaaGreat
