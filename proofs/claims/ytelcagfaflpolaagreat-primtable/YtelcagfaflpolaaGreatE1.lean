
/- What the joined shape is, array by array. -/

import Derived.Test.YtelcagfaflpolaaGreatL2
import Derived.Deep.RegionHeld3
import Derived.Deep.DeepCutAuto
import Derived.Test.YtelcagfaflpolaaGreatC13
import Derived.Test.YtelcagfaflpolaaGreatD1

namespace Go.Proofs.YtelcagfaflpolaaGreat

open Go.RowKit Go.Shelf

attribute [local go_sem] Oper.semAt_some

set_option linter.unusedVariables false

set_option maxRecDepth 100000 in
set_option maxHeartbeats 4000000 in
theorem lay_zero (io : Option Addr) (inn ic : Nat) (co : Option Addr) (cn cc : Nat) (so : Option Addr) (sn sc : Nat) (ao : Option Addr) (an ac : Nat) (sh : List Int) (w : World) (hs : Rd w so sn sh) (h0 : mayF sh = 0) (hz : pr sh = 0) (hsc : sn ≤ cn) (hcn : cn ≤ 8) :
    Calls Tryz.prog 42 #[.slice io inn ic, .slice co cn cc, .agg #[.slice so sn sc, .slice ao an ac]] w fun e w' => (∃ v, e = .returned v) ∧ Below w.heap.size w w' := by
  refine (callsIn_wide (n := 9)).1 ?_
  refine callsIn_of_wp_marks Tryz.func42 rfl trivial ?_ rfl
  simp only [Tryz.ntmps42, List.size_toArray, List.length_cons, List.length_nil, Nat.reduceAdd, Nat.reduceSub, Array.replicate_succ, Array.replicate_zero, List.push_toArray, List.append_toArray, List.nil_append, List.cons_append]
  have hmk := run_make_row' (P := Tryz.prog) 33 3 (.int .i64 0) 8 Tryz.underlying33 info3 rfl .i64 .i64 cn (by omega) (by omega)
  obtain ⟨d, hd⟩ : ∃ d : Nat, d = cn - sn := ⟨_, rfl⟩
  have e1 : (cn : Int) - (sn : Int) = (d : Int) := by omega
  have w1 : IntKind.i64.wrap (d : Int) = (d : Int) := wrapIn _ (by omega)
  have b1 : (0 : Int) ≤ (d : Int) := by omega
  have b2 : (d : Int) ≤ (cn : Int) := by omega
  have e2 : cn - d = sn := by omega
  have HZ : Hid (pr sh = 0) := hz
  have H0 : Hid (mayF sh = 0) := h0
  have k0 : ∀ bo : Option Addr, Below w.heap.size w ((((((w.alloc (.cells #[.slice io inn ic] 34)).alloc (.cells #[.slice co cn cc] 33)).alloc (.cells #[.slice so sn sc, .slice ao an ac] 36)).alloc (.cells (madeCells #[.int .i64 0] cn) 3)).alloc (.cells #[.slice (some ⟨w.heap.size + 1 + 1 + 1, 0, none⟩) cn cn] 33)).alloc (.cells #[.slice bo sn sn] 33)) := fun bo =>
    ((((((Below.refl _ w).alloc (Nat.le_refl _) _).alloc (by simp) _).alloc (by simp; omega) _).alloc (by simp; omega) _).alloc (by simp; omega) _).alloc (by simp; omega) _
  clear hd hsc hz h0
  obtain ⟨bo, hbo⟩ : ∃ bo, (if cn = d then some (⟨w.heap.size + 1 + 1 + 1, 0, none⟩ : Addr) else some ⟨w.heap.size + 1 + 1 + 1, d, none⟩) = bo := ⟨_, rfl⟩
  gi_wp2_with (refine ⟨trivial, ?_⟩; gi_at_call 61; refine (callsIn_wide.2 (all_any so sn sc sh _ ?_)).mono ?_; (· exact (((((hs.alloc _).alloc _).alloc _).alloc _).alloc _).alloc _); rintro e w4 ⟨B1, B2, qo, qc, rfl, hq4, hf4, hB1, hB2, hb4⟩)
  have k4 : Below w.heap.size w w4 := (k0 bo).trans (hb4.mono (by simp; omega))
  clear hb4 hf4 k0
  refine range_over (gf := 77) (lb := #[.pointer (some ⟨B1, 0, none⟩), .pointer (some ⟨B2, 0, none⟩)]) rfl (enters_of Tryz.func77 (by kernel_rfl) rfl) (fun W => Below w.heap.size w W) (fun _ _ => False) ?it ?done ?stop
  case stop => exact fun _ _ _ h => h.elim
  case done =>
    intro W hD hI
    gi_wp2
    refine ⟨by simp, .inl ⟨_, _, rfl, run_takeDeferred hD, ?_⟩⟩
    have g1 := grownBy_putObj' W w4.heap.size (.deferred none)
    exact ⟨_, results_none rfl _ _ _, ⟨_, rfl⟩, hI.grown g1 hI.size (fun k e => by cases e; exact k4.size)⟩
  case it =>
    intro L l W eT eP eA eB eO el hr hb hs5
    have q1 := hq4.below hb (Nat.le_refl _)
    have k5 : Below w.heap.size w W := k4.trans (hb.mono k4.size)
    have hl1 : w.heap.size ≤ l := by have := k4.size; omega
    clear el hs5 hb eO hq4
    refine (all1_range 8 l B1 B2 (by omega) qo sn qc sh H0.out (fun k W => L.is .ready none l W ∧ Sq W B1 B2 qo sn qc sh ∧ Below w.heap.size w W) ?hJ ?hJb ?hY W ⟨hr, q1, k5⟩).mono ?_
    case hJ => exact fun k W hJ => hJ.2.1
    case hJb => exact fun k W W' hJ hb => ⟨hJ.1.below hb (Nat.le_refl _), hJ.2.1.below hb (Nat.le_refl _), hJ.2.2.trans (hb.mono hJ.2.2.size)⟩
    case hY =>
      intro k W0 W1 lo lc hk
      have := HZ.out
      omega
    · rintro e W1 ⟨hv, hr1, hi1⟩
      exact ⟨hv, .inl ⟨hr1, fun W2 hg => hi1.2.grown hg hi1.2.size (fun k e => by cases e; exact hl1)⟩⟩
end Go.Proofs.YtelcagfaflpolaaGreat


namespace Go.Proofs.YtelcagfaflpolaaGreat

open Go.RowKit

set_option linter.unusedVariables false

/-- The numbers of a row, the first k atoms laid into it. -/
def lyZ (cur : List Int) (off : Nat) (cm sh at' : List Int) : Nat → List Int
  | 0 => cur
  | k + 1 => (lyZ cur off cm sh at' k).set (off + tgt cm sh k) (nth at' k)
theorem lyZ_len (cur : List Int) (off : Nat) (cm sh at' : List Int) : ∀ k, (lyZ cur off cm sh at' k).length = cur.length
  | 0 => rfl
  | k + 1 => by show (List.set _ _ _).length = _; rw [List.length_set, lyZ_len cur off cm sh at' k]
theorem lyK_map (cur : List Int) (off : Nat) (cm sh at' : List Int) : ∀ k, lyK (cur.map (Value.int .i64)) off cm sh at' k = (lyZ cur off cm sh at' k).map (Value.int .i64)
  | 0 => rfl
  | k + 1 => by show List.set _ _ _ = _; rw [lyK_map cur off cm sh at' k]; show _ = (List.set _ _ _).map _; rw [List.map_set]
/-- The first n arrays, each in its place of z atoms. -/
def jnZ (cm : List Int) (z : Nat) (xs : Nat → List Int × List Int) (cur : List Int) : Nat → List Int
  | 0 => cur
  | n + 1 => lyZ (jnZ cm z xs cur n) (n * z) cm (xs n).1 (xs n).2 (xs n).2.length
theorem jnZ_len (cm : List Int) (z : Nat) (xs : Nat → List Int × List Int) (cur : List Int) : ∀ n, (jnZ cm z xs cur n).length = cur.length
  | 0 => rfl
  | n + 1 => by show (lyZ _ _ _ _ _ _).length = _; rw [lyZ_len, jnZ_len cm z xs cur n]
theorem set_num {l : List Int} {i : Nat} {v : Int} (h : ∀ k, k < l.length → -9223372036854775808 ≤ nth l k ∧ nth l k ≤ 9223372036854775807) (h1 : -9223372036854775808 ≤ v) (h2 : v ≤ 9223372036854775807) : ∀ k, k < (l.set i v).length → -9223372036854775808 ≤ nth (l.set i v) k ∧ nth (l.set i v) k ≤ 9223372036854775807 := by
  intro k hk
  rw [List.length_set] at hk
  by_cases hi : i < l.length
  · rw [nth_set hi]
    split
    · exact ⟨h1, h2⟩
    · exact h k hk
  · rw [List.set_eq_of_length_le (by omega)]; exact h k hk
theorem lyZ_num {cur at' : List Int} {off : Nat} {cm sh : List Int} (h : ∀ k, k < cur.length → -9223372036854775808 ≤ nth cur k ∧ nth cur k ≤ 9223372036854775807) (ha : ∀ k, k < at'.length → -9223372036854775808 ≤ nth at' k ∧ nth at' k ≤ 9223372036854775807) :
    ∀ n, n ≤ at'.length → ∀ k, k < (lyZ cur off cm sh at' n).length → -9223372036854775808 ≤ nth (lyZ cur off cm sh at' n) k ∧ nth (lyZ cur off cm sh at' n) k ≤ 9223372036854775807
  | 0, _ => h
  | n + 1, hn => set_num (lyZ_num h ha n (by omega)) (ha n (by omega)).1 (ha n (by omega)).2

set_option maxHeartbeats 2000000 in
theorem done_few {w : World} {B jb : Nat} {fo : Option Addr} {fn fc : Nat} {co : Option Addr} {cn cc : Nat} {go : Option Addr} {gc : Nat} {fs : List Int} {xs : Nat → List Int × List Int} {n : Nat} (h : Jn w B jb fo fn fc co cn cc go gc fs xs n) (m0 : mayF fs = 0) (hn : (n : Int) < pr fs) :
    Calls Tryz.prog 19 #[.pointer (some ⟨jb, 0, none⟩)] w fun e w' => e = .returned (.tuple #[.agg #[.slice none 0 0, .slice none 0 0], .int .i64 11]) ∧ Below w.heap.size w w' := by
  have k0 := box_below w (.cells #[.slice none 0 0, .slice none 0 0] 36)
  have J0 := h.below k0 (Nat.le_refl _)
  have r0 := allocNew w (.cells #[.slice none 0 0, .slice none 0 0] 36)
  obtain ⟨x0, x1, x2, _, _, _⟩ := box3 J0.box
  obtain ⟨y0, y1, y2, y3⟩ := box2 r0
  have t1 : decide ((n : Int) < pr fs) = true := by simpa using hn
  go_enter Tryz.func19, Tryz.ntmps19
  go_wp2
  go_quiet (exact Calls.quiet_of_same (places_any (J0.below (below_drewN (Below.refl _ _) _) (Nat.le_refl _)) m0))
  have k1 := below_drewN k0 nq
  go_wp2
  (try simp only [Exit.inBlock, Exit.then])
  refine bodyPost_ret (v := .tuple #[.agg #[.slice none 0 0, .slice none 0 0], .int .i64 11]) (by rw [results_cell_tmp rfl]; go_simp) rfl ?_
  exact ⟨rfl, by first | exact k1 | exact below_set2 _ _ _ _ k1 (Nat.le_refl _) (Nat.le_refl _)⟩
end Go.Proofs.YtelcagfaflpolaaGreat





namespace Go.Proofs.YtelcagfaflpolaaGreat

open Go.RowKit

set_option linter.unusedVariables false

/-- A joiner that is asked, and the answer's box. -/
structure Jx (w V : World) (B jb : Nat) (fo : Option Addr) (fn fc : Nat) (co : Option Addr) (cn cc : Nat) (go : Option Addr) (gc : Nat) (fs : List Int) (xs : Nat → List Int × List Int) (n : Nat) : Prop where
  j : Jn V B jb fo fn fc co cn cc go gc fs xs n
  r : V.heap[w.heap.size]? = some (.cells #[.slice none 0 0, .slice none 0 0] 36 (0, 0))
  bel : Below w.heap.size w V
theorem Jx.below {w V V' : World} {B jb : Nat} {fo : Option Addr} {fn fc : Nat} {co : Option Addr} {cn cc : Nat} {go : Option Addr} {gc : Nat} {fs : List Int} {xs : Nat → List Int × List Int} {n : Nat} (h : Jx w V B jb fo fn fc co cn cc go gc fs xs n) (k : Below V.heap.size V V') : Jx w V' B jb fo fn fc co cn cc go gc fs xs n :=
  ⟨h.j.below k (Nat.le_refl _), (k.block _ (Array.getElem?_eq_some_iff.1 h.r).1).trans h.r, h.bel.trans (k.mono h.bel.size)⟩
theorem Jx.all {w V : World} {B jb : Nat} {fo : Option Addr} {fn fc : Nat} {co : Option Addr} {cn cc : Nat} {go : Option Addr} {gc : Nat} {fs : List Int} {xs : Nat → List Int × List Int} {n : Nat} (h : Jx w V B jb fo fn fc co cn cc go gc fs xs n) :
    V.cell? ⟨jb, 0, none⟩ = some (.slice fo fn fc) ∧ V.cell? ⟨jb, 1, none⟩ = some (.slice co cn cc) ∧ Jx w V B jb fo fn fc co cn cc go gc fs xs n := ⟨(box3 h.j.box).1, (box3 h.j.box).2.1, h⟩

/-- The array that is filled, in its box. -/
structure Ox (W V : World) (gb : Nat) (o1 : Option Addr) (n1 c1 : Nat) (o2 : Option Addr) (n2 c2 : Nat) (ss ts : List Int) : Prop where
  ge : W.heap.size ≤ gb
  box : V.heap[gb]? = some (.cells #[.slice o1 n1 c1, .slice o2 n2 c2] 36 (0, 0))
  s : Ft 3 V W.heap.size o1 n1 c1 ss
  a : Ft 2 V W.heap.size o2 n2 c2 ts
  ap : apart o1 o2
  na : ∀ b off, o2 = some ⟨b, off, none⟩ → b ≠ gb
  bel : Below W.heap.size W V
theorem ox_new {W V : World} {o1 : Option Addr} {n1 c1 : Nat} {o2 : Option Addr} {n2 c2 B : Nat} {ss ts : List Int} (bel : Below W.heap.size W V) (hB : W.heap.size ≤ B) (s : Ft 3 V B o1 n1 c1 ss) (a : Ft 2 V B o2 n2 c2 ts) (ap : apart o1 o2) : Ox W (V.alloc (.cells #[.slice o1 n1 c1, .slice o2 n2 c2] 36)) V.heap.size o1 n1 c1 o2 n2 c2 ss ts :=
  ⟨bel.size, allocNew _ _, (s.below (box_below _ _) (Nat.le_refl _)).mono hB, (a.below (box_below _ _) (Nat.le_refl _)).mono hB, ap, fun b off e => by have := (a.at b off e).2; omega, btw bel (box_below _ _) bel.size⟩
theorem ox_set {W V : World} {gb : Nat} {o1 : Option Addr} {n1 c1 : Nat} {o2 : Option Addr} {n2 c2 B : Nat} {ss ts : List Int} {x y : Value} (bel : Below W.heap.size W V) (hg : W.heap.size ≤ gb) (hB : gb < B) (hb : V.heap[gb]? = some (.cells #[x, y] 36 (0, 0))) (s : Ft 3 V B o1 n1 c1 ss) (a : Ft 2 V B o2 n2 c2 ts) (ap : apart o1 o2) :
    Ox W ((V.setCell ⟨gb, 0, none⟩ (.slice o1 n1 c1)).setCell ⟨gb, 1, none⟩ (.slice o2 n2 c2)) gb o1 n1 c1 o2 n2 c2 ss ts := by
  have s1 := heap_setCell_same V gb 0 _ 36 (.slice o1 n1 c1) hb
  have s2 := heap_setCell_same _ gb 1 _ 36 (.slice o2 n2 c2) s1
  exact ⟨hg, s2, (s.keep1 (set2 _ _ _ _ _ _) (fun b off e => by have := (s.at b off e).1; intro e'; simp only [Option.some.injEq] at e'; omega)).mono (by omega), (a.keep1 (set2 _ _ _ _ _ _) (fun b off e => by have := (a.at b off e).1; intro e'; simp only [Option.some.injEq] at e'; omega)).mono (by omega), ap, fun b off e => by have := (a.at b off e).1; omega, below_set2 _ _ _ _ bel hg (Nat.le_refl _)⟩

theorem Ox.below {W V V' : World} {gb : Nat} {o1 : Option Addr} {n1 c1 : Nat} {o2 : Option Addr} {n2 c2 : Nat} {ss ts : List Int} (h : Ox W V gb o1 n1 c1 o2 n2 c2 ss ts) (k : Below V.heap.size V V') : Ox W V' gb o1 n1 c1 o2 n2 c2 ss ts :=
  ⟨h.ge, (k.block _ (Array.getElem?_eq_some_iff.1 h.box).1).trans h.box, h.s.below k (Nat.le_refl _), h.a.below k (Nat.le_refl _), h.ap, h.na, h.bel.trans (k.mono h.bel.size)⟩
theorem lyK_take (m off : Nat) (cm sh at' : List Int) : ∀ (k : Nat) (cur : List Value), (lyK cur off cm sh at' k).take m = lyK (cur.take m) off cm sh at' k
  | 0, cur => rfl
  | k + 1, cur => by
    show (List.set _ _ _).take m = List.set _ _ _
    rw [List.take_set, lyK_take m off cm sh at' k cur]
/-- A row of the answer into which an array is laid. -/
theorem Ox.laid {W V V' : World} {gb g : Nat} {o1 : Option Addr} {n1 c1 : Nat} {n2 c2 : Nat} {ss ts : List Int} {cur : List Value} {off : Nat} {cm sh at' : List Int} (h : Ox W V gb o1 n1 c1 (some ⟨g, 0, none⟩) n2 c2 ss ts) (hg : V.heap[g]? = some (.cells cur.toArray 2 (0, 0))) (ha : ∀ k, k < at'.length → -9223372036854775808 ≤ nth at' k ∧ nth at' k ≤ 9223372036854775807)
    (h1 : V'.heap[g]? = some (.cells (lyK cur off cm sh at' at'.length).toArray 2 (0, 0))) (h2 : V.grownBy V' (some g)) : Ox W V' gb o1 n1 c1 (some ⟨g, 0, none⟩) n2 c2 ss (lyZ ts off cm sh at' at'.length) := by
  have hgb : g ≠ gb := h.na g 0 rfl
  have hgW := (h.a.at g 0 rfl).1
  have hl := h.a.rd.len
  have hbl := (Array.getElem?_eq_some_iff.1 h.box).1
  refine ⟨h.ge, (h2.block gb hbl (fun e => hgb (by simpa using e.symm))).trans h.box, h.s.keep1 h2 (fun b off e e' => ?_), ?_, h.ap, h.na, h.bel.grown h2 h.bel.size (fun k e => by simp only [Option.some.injEq] at e; omega)⟩
  · simp only [Option.some.injEq] at e'
    exact h.ap _ _ e rfl e'
  · rcases h.a.own.2 with ⟨e1, _⟩ | ⟨g', c, cu, e1, hB2, hg2, hnc, hcm, hcs, ht⟩
    · cases e1
    · cases e1
      rw [hg] at hg2
      simp only [Option.some.injEq, Obj.cells.injEq, and_true] at hg2
      subst hg2
      have ht' : cur.take n2 = ts.map (Value.int .i64) := by simpa using ht
      have hcl : cur.length = c2 := by simpa using hcs
      refine Ft.row h1 hgW (by rw [lyZ_len]; exact hl) h.a.rd.room (fun k hk => ?_) hnc hcm (by rw [lyK_len]; exact hcl) (by rw [lyK_take, ht', lyK_map])
      exact lyZ_num (fun k hk => h.a.rd.num k (by omega)) ha _ (Nat.le_refl _) k (by rw [lyZ_len]; omega)
theorem Gv.elem {W : World} {B : Nat} {go : Option Addr} {gn gc : Nat} {xs : Nat → List Int × List Int} (h : Gv W B go gn gc xs) (j : Nat) (hj : j < gn) : ∃ g so sn sc ro rn rc, go = some ⟨g, 0, none⟩ ∧ W.cell? ⟨g, j * 2, none⟩ = some (.slice so sn sc) ∧ W.cell? ⟨g, j * 2 + 1, none⟩ = some (.slice ro rn rc) ∧ Ft 3 W B so sn sc (xs j).1 ∧ Ft 2 W B ro rn rc (xs j).2 := by
  obtain ⟨cs, ow, hel⟩ := h.own
  obtain ⟨so, sn, sc, ro, rn, rc, a1, a2, a3, a4⟩ := hel j hj
  rcases ow.2 with ⟨e1, h0⟩ | ⟨g, c, cur, e1, hB2, hg2, r⟩
  · omega
  · cases e1
    have b1 := ow.cells (g := g) rfl _ _ a1
    have b2 := ow.cells (g := g) rfl _ _ a2
    rw [add_at, Nat.zero_add] at b1 b2
    exact ⟨g, so, sn, sc, ro, rn, rc, rfl, b1, b2, a3, a4⟩
theorem wn_zero {cm sh : List Int} (h : Wn cm sh) (hz : pr cm = 0) : pr sh = 0 := by
  have := (prF_bd h.ms).1
  by_cases c : (0 : Int) < pr sh
  · have := (tgt_ok h (k := 0) (by simpa using c)).2.2
    omega
  · omega

set_option maxHeartbeats 8000000 in
set_option maxRecDepth 20000 in
theorem done_ok {w : World} {B jb : Nat} {fo : Option Addr} {fn fc : Nat} {co : Option Addr} {cn cc : Nat} {go : Option Addr} {gc : Nat} {fs : List Int} {xs : Nat → List Int × List Int} {n : Nat} (h : Jn w B jb fo fn fc co cn cc go gc fs xs n) (m0 : mayF fs = 0) (hn : (n : Int) = pr fs) (hn0 : 0 < n) (m1 : mayF (fs ++ cmn xs n) = 0) (mc : mayF (cmn xs n) = 0) (hv : ∀ j, j < n → mayA (xs j).1 (xs j).2 = 0) (hw : ∀ j, j < n → Wn (cmn xs n) (xs j).1) :
    Calls Tryz.prog 19 #[.pointer (some ⟨jb, 0, none⟩)] w fun e w' => ∃ o1 n1 c1 o2 n2 c2, e = .returned (.tuple #[.agg #[.slice o1 n1 c1, .slice o2 n2 c2], .int .i64 0]) ∧ Ft 3 w' w.heap.size o1 n1 c1 (fs ++ cmn xs n) ∧ Ft 2 w' w.heap.size o2 n2 c2 (jnZ (cmn xs n) (pr (cmn xs n)).toNat xs (List.replicate (pr (fs ++ cmn xs n)).toNat 0) n) ∧ Below w.heap.size w w' := by
  have k0 := box_below w (.cells #[.slice none 0 0, .slice none 0 0] 36)
  have X0 : Jx w (w.alloc (.cells #[.slice none 0 0, .slice none 0 0] 36)) B jb fo fn fc co cn cc go gc fs xs n := ⟨h.below k0 (Nat.le_refl _), allocNew w _, k0⟩
  have pf := prF_bd m0
  have pc := prF_bd mc
  have pt := prF_bd m1
  have hpt : pr (fs ++ cmn xs n) = pr fs * pr (cmn xs n) := pr_app _ _
  obtain ⟨z, hz⟩ : ∃ z : Nat, pr (cmn xs n) = z := ⟨(pr (cmn xs n)).toNat, by omega⟩
  have hfn : fn ≤ 8 := by rw [← h.f.rd.len]; exact (mayF_zero m0).2.1
  have hcn : cn ≤ 8 := by rw [← h.c.rd.len]; exact (mayF_zero mc).2.1
  have hfl := fun W o k c (x : Rd W o k (fs ++ cmn xs n)) (y : Sl o k c) => fill_any o k c (fs ++ cmn xs n) 0 W x y (by omega) (by omega)
  rw [m1, show filS (fs ++ cmn xs n) = fs ++ cmn xs n from if_pos m1, show filA (fs ++ cmn xs n) 0 = List.replicate (pr (fs ++ cmn xs n)).toNat 0 from if_pos m1] at hfl
  rw [hpt, ← hn, hz, show ((n : Int) * (z : Int)).toNat = n * z by rw [← Int.natCast_mul]; exact Int.toNat_natCast _] at hfl ⊢
  rw [hpt, ← hn, hz] at pt
  simp only [Int.toNat_natCast]
  have hnz : n * z ≤ 4096 := by have := pt.2; rw [← Int.natCast_mul] at this; omega
  have t1 : decide ((n : Int) < pr fs) = false := by simp; omega
  obtain ⟨x0, x1, x2, _, _, _⟩ := box3 X0.j.box
  obtain ⟨y0, y1, y2, y3⟩ := box2 X0.r
  have HN : Hid ((n : Int) = pr fs) := hn
  have HZ : Hid (pr (cmn xs n) = z) := hz
  have HM : Hid (mayF fs = 0) := m0
  clear hn hz m0 m1 mc hpt pt k0
  go_enter Tryz.func19, Tryz.ntmps19
  go_wp2
  go_quiet (exact Calls.quiet_of_same (places_any (X0.j.below (below_drewN (Below.refl _ _) _) (Nat.le_refl _)) HM.out))
  have X1 := X0.below (below_drewN (Below.refl _ _) nq)
  generalize (w.alloc (.cells #[.slice none 0 0, .slice none 0 0] 36)).drewN nq = W1 at *
  clear X0 x0 x1 x2 y0 y1 y2 y3
  go_wp2
  have al : ∀ V, Jx w V B jb fo fn fc co cn cc go gc fs xs n → V.cell? ⟨jb, 0, none⟩ = some (.slice fo fn fc) ∧ V.cell? ⟨jb, 1, none⟩ = some (.slice co cn cc) ∧ Jx w V B jb fo fn fc co cn cc go gc fs xs n := fun V x => x.all
  have bA : Below W1.heap.size W1 ((W1.alloc (.cells #[.slice none 0 0, .slice none 0 0] 36)).alloc (.cells #[.slice fo fn fc, .slice co cn cc] 33)).drew := (btw (box_below W1 (.cells #[.slice none 0 0, .slice none 0 0] 36)) (box_below _ (.cells #[.slice fo fn fc, .slice co cn cc] 33)) (by simp)).drew
  have bB : Below W1.heap.size W1 ((W1.alloc (.cells #[.slice fo fn fc, .slice co cn cc] 33)).alloc (.cells #[.slice none 0 0, .slice none 0 0] 36)).drew := (btw (box_below W1 (.cells #[.slice fo fn fc, .slice co cn cc] 33)) (box_below _ (.cells #[.slice none 0 0, .slice none 0 0] 36)) (by simp)).drew
  have bC : Below W1.heap.size W1 (W1.alloc (.cells #[.slice fo fn fc, .slice co cn cc] 33)).drew := (box_below W1 (.cells #[.slice fo fn fc, .slice co cn cc] 33)).drew
  have lA : ((W1.alloc (.cells #[.slice none 0 0, .slice none 0 0] 36)).alloc (.cells #[.slice fo fn fc, .slice co cn cc] 33)).drew.heap[W1.heap.size + 1]? = some (.cells #[.slice fo fn fc, .slice co cn cc] 33) := by have := allocNew (W1.alloc (.cells #[.slice none 0 0, .slice none 0 0] 36)) (.cells #[.slice fo fn fc, .slice co cn cc] 33); rwa [World.size_alloc] at this
  have lB : ((W1.alloc (.cells #[.slice fo fn fc, .slice co cn cc] 33)).alloc (.cells #[.slice none 0 0, .slice none 0 0] 36)).drew.heap[W1.heap.size]? = some (.cells #[.slice fo fn fc, .slice co cn cc] 33) := ((box_below (W1.alloc (.cells #[.slice fo fn fc, .slice co cn cc] 33)) (.cells #[.slice none 0 0, .slice none 0 0] 36)).block W1.heap.size (by simp)).trans (allocNew W1 (.cells #[.slice fo fn fc, .slice co cn cc] 33))
  have lC : (W1.alloc (.cells #[.slice fo fn fc, .slice co cn cc] 33)).drew.heap[W1.heap.size]? = some (.cells #[.slice fo fn fc, .slice co cn cc] 33) := allocNew W1 (.cells #[.slice fo fn fc, .slice co cn cc] 33)
  have xA : ((W1.alloc (.cells #[.slice none 0 0, .slice none 0 0] 36)).alloc (.cells #[.slice fo fn fc, .slice co cn cc] 33)).drew.heap[W1.heap.size]? = some (.cells #[.slice none 0 0, .slice none 0 0] 36) := ((box_below (W1.alloc (.cells #[.slice none 0 0, .slice none 0 0] 36)) (.cells #[.slice fo fn fc, .slice co cn cc] 33)).block W1.heap.size (by simp)).trans (allocNew W1 (.cells #[.slice none 0 0, .slice none 0 0] 36))
  have xB : ((W1.alloc (.cells #[.slice fo fn fc, .slice co cn cc] 33)).alloc (.cells #[.slice none 0 0, .slice none 0 0] 36)).drew.heap[W1.heap.size + 1]? = some (.cells #[.slice none 0 0, .slice none 0 0] 36) := by have := allocNew (W1.alloc (.cells #[.slice fo fn fc, .slice co cn cc] 33)) (.cells #[.slice none 0 0, .slice none 0 0] 36); rwa [World.size_alloc] at this
  have cA := concat_any fo co fn fc cn cc (W1.heap.size + 1) fs (cmn xs n) _ lA (X1.below bA).j.f.rd (X1.below bA).j.f.sl (X1.below bA).j.c.rd (X1.below bA).j.c.sl (by omega) (by omega)
  have cB := concat_any fo co fn fc cn cc W1.heap.size fs (cmn xs n) _ lB (X1.below bB).j.f.rd (X1.below bB).j.f.sl (X1.below bB).j.c.rd (X1.below bB).j.c.sl (by omega) (by omega)
  have cC := concat_any fo co fn fc cn cc W1.heap.size fs (cmn xs n) _ lC (X1.below bC).j.f.rd (X1.below bC).j.f.sl (X1.below bC).j.c.rd (X1.below bC).j.c.sl (by omega) (by omega)
  go_cut [4, 5] (fun s4 s5 V => ∃ gb o1 n1 c1 o2 n2 c2, s4 = .pointer (some ⟨gb, 0, none⟩) ∧ s5 = .int .i64 0 ∧ Ox W1 V gb o1 n1 c1 o2 n2 c2 (fs ++ cmn xs n) (List.replicate (n * z) 0))
  case first =>
    go_region_held3 (fun V => V.cell? ⟨jb, 0, none⟩ = some (.slice fo fn fc) ∧ V.cell? ⟨jb, 1, none⟩ = some (.slice co cn cc) ∧ Jx w V B jb fo fn fc co cn cc go gc fs xs n) (first | exact al _ (by assumption) | exact al _ (Jx.below (by assumption) (Below.refl _ _).drew) | exact al _ (X1.below bA) | exact al _ (X1.below bB) | exact al _ (X1.below bC) | exact al _ ((Jx.below (by assumption) (box_below _ _)).below (Below.refl _ _).drew) | exact al _ (Jx.below (by assumption) (box_below _ _)) | exact al _ (X1.below (below_set2 _ _ _ _ b3 (by first | omega | exact b2.size) (Nat.le_refl _))))
      (first
        | (go_at_call 41; (with_reducible refine cA.mono ?_); rintro e w2 ⟨o3, c3, rfl, f2, k2⟩; have b2 := bA.trans (k2.mono bA.size); have X2 := X1.below b2; have y2 := (k2.block W1.heap.size (Array.getElem?_eq_some_iff.1 xA).1).trans xA)
        | (go_at_call 41; (with_reducible refine cB.mono ?_); rintro e w2 ⟨o3, c3, rfl, f2, k2⟩; have b2 := bB.trans (k2.mono bB.size); have X2 := X1.below b2; have y2 := (k2.block (W1.heap.size + 1) (Array.getElem?_eq_some_iff.1 xB).1).trans xB)
        | (go_at_call 41; (with_reducible refine cC.mono ?_); rintro e w2 ⟨o3, c3, rfl, f2, k2⟩; have b2 := bC.trans (k2.mono bC.size); have X2 := X1.below b2)
        | (go_at_call 24; (with_reducible refine (hfl _ _ _ _ f2.rd f2.sl).mono ?_); rintro e w3 ⟨p1, m1, d1, p2, m2, d2, rfl, g1, g2, ap3, k3⟩; have b3 := b2.trans (k3.mono b2.size); have X3 := X1.below b3; (try (have y3 := (k3.block _ (Array.getElem?_eq_some_iff.1 y2).1).trans y2; obtain ⟨q0, q1, q2, q3⟩ := box2 y3)))
        | (go_at_call 24; (with_reducible refine (hfl _ _ _ _ (f2.rd.below (box_below w2 (.cells #[.slice none 0 0, .slice none 0 0] 36)) (Nat.le_refl _)) f2.sl).mono ?_); rintro e w3 ⟨p1, m1, d1, p2, m2, d2, rfl, g1, g2, ap3, k3⟩; have b3 := (btw b2 (box_below w2 (.cells #[.slice none 0 0, .slice none 0 0] 36)) b2.size).trans (k3.mono (btw b2 (box_below w2 (.cells #[.slice none 0 0, .slice none 0 0] 36)) b2.size).size); have X3 := X1.below b3; have y3 := (k3.block w2.heap.size (by simp)).trans (allocNew w2 (.cells #[.slice none 0 0, .slice none 0 0] 36)); obtain ⟨q0, q1, q2, q3⟩ := box2 y3))
    all_goals
      go_wp2
      go_meet
      case rel =>
        first
          | exact ⟨_, _, _, _, _, _, _, rfl, rfl, ox_new b3 b2.size g1 g2 ap3⟩
          | exact ⟨_, _, _, _, _, _, _, rfl, rfl, ox_set b3 (Nat.le_refl _) (Nat.lt_of_lt_of_le (Array.getElem?_eq_some_iff.1 y2).1 (Nat.le_refl _)) y3 g1 g2 ap3⟩
          | exact ⟨_, _, _, _, _, _, _, rfl, rfl, ox_set b3 (Nat.le_succ _) (Nat.lt_of_lt_of_le (Array.getElem?_eq_some_iff.1 y2).1 (Nat.le_refl _)) y3 g1 g2 ap3⟩
          | exact ⟨_, _, _, _, _, _, _, rfl, rfl, ox_set b3 b2.size (by simp) y3 g1 g2 ap3⟩
  case rest =>
    clear al bA bB bC lA lB lC xA xB cA cB cC hfl
    obtain ⟨gb, o1, n1, c1, o2, n2, c2, rfl, rfl, O⟩ := hcut
    have XC := X1.below O.bel
    obtain ⟨x0, x1, x2, _, _, _⟩ := box3 XC.j.box
    obtain ⟨y0, y1, y2, y3⟩ := box2 O.box
    have e2 : Hid (n2 = n * z) := by have := O.a.rd.len; rw [List.length_replicate] at this; exact this.symm
    have hpl := fun V (x : Jn V B jb fo fn fc co cn cc go gc fs xs n) => places_any x HM.out
    rw [← HN.out] at hpl
    have n0 : ¬ n = 0 := by omega
    have wq : IntKind.i64.wrap ((n2 : Int) / (n : Int)) = (z : Int) := by
      have : (n2 : Int) / (n : Int) = z := by rw [e2.out, Int.natCast_mul]; exact Int.mul_ediv_cancel_left _ (by omega)
      rw [this]; exact wrapIn _ (by have := pc.2; have := HZ.out; omega)
    go_wp2
    go_quiet (exact Calls.quiet_of_same (hpl _ (XC.j.below (below_drewN (Below.refl _ _) _) (Nat.le_refl _))))
    have OC := O.below (below_drewN (Below.refl _ _) nq)
    obtain ⟨W6, hW6⟩ : ∃ W6, wc.drewN nq = W6 := ⟨_, rfl⟩
    rw [hW6] at OC ⊢
    clear x0 x1 x2 y0 y1 y2 y3 wq hpl O XC hW6 t1
    have XC := X1.below OC.bel
    obtain ⟨x0, x1, x2, _, _, _⟩ := box3 XC.j.box
    have hz4 : z ≤ 4096 := by have := pc.2; have := HZ.out; omega
    have hX1 := X1.bel.size
    have n4 : n ≤ 4096 := by have := HN.out; have := pf.2; omega
    go_wp2
    clear x0 x1 x2
    go_loopw [43] (fun i V => ∃ k : Nat, k ≤ n ∧ i = .int .i64 (k : Nat) ∧ Ox W1 V gb o1 n1 c1 o2 n2 c2 (fs ++ cmn xs n) (jnZ (cmn xs n) z xs (List.replicate (n * z) 0) k)) (fun i _ => n - (intOf i).toNat)
    case atStart => exact ⟨0, Nat.zero_le _, rfl, OC⟩
    case round =>
      obtain ⟨k, hk, rfl, O⟩ := hrel
      clear OC XC
      have XV := X1.below O.bel
      by_cases hlt : k < n
      · obtain ⟨gg, so, sn, sc, ro, rn, rc, rfl, e0', e1', es', ea'⟩ := X1.j.g.elem k hlt
        have lgg := World.block_lt_of_cell? W1 _ e0'
        have e0 := (O.bel.cell (p := ⟨gg, k * 2, none⟩) lgg).trans e0'
        have e1 := (O.bel.cell (p := ⟨gg, k * 2 + 1, none⟩) lgg).trans e1'
        have es := es'.below O.bel (Nat.le_refl _)
        have ea := ea'.below O.bel (Nat.le_refl _)
        clear e0' e1'
        have t1 : decide ((k : Int) < (n : Int)) = true := by simp; omega
        have b3 : (k : Int) < (n : Int) := by omega
        obtain ⟨lo, hlo⟩ : ∃ lo : Nat, k * z = lo := ⟨_, rfl⟩
        obtain ⟨hi, hhi⟩ : ∃ hi : Nat, (k + 1) * z = hi := ⟨_, rfl⟩
        have m1 : ((k : Int) * (z : Int)) = (lo : Int) := by rw [← hlo]; simp
        have m2 : (((k : Int) + 1) * (z : Int)) = (hi : Int) := by rw [← hhi]; simp
        have m3 : hi - lo = z := by rw [← hlo, ← hhi, Nat.add_mul]; omega
        have hlh : lo ≤ hi := by rw [← hlo, ← hhi]; exact Nat.mul_le_mul_right _ (by omega)
        have hhn : hi ≤ n2 := by rw [e2.out, ← hhi]; exact Nat.mul_le_mul_right _ (by omega)
        have gle := O.a.sl.le
        have gmx := O.a.sl.max
        have n24 : n2 ≤ 4096 := by rw [e2.out]; exact hnz
        have b1 : (lo : Int) ≤ (hi : Int) := by omega
        have b2 : (hi : Int) ≤ (c2 : Int) := by omega
        have b0 : (0 : Int) ≤ (lo : Int) := by omega
        have w1 : IntKind.i64.wrap (lo : Int) = (lo : Int) := wrapIn _ (by omega)
        have w2 : IntKind.i64.wrap ((k : Int) + 1) = (k : Int) + 1 := wrapIn _ (by omega)
        have w3 : IntKind.i64.wrap (hi : Int) = (hi : Int) := wrapIn _ (by omega)
        obtain ⟨po, hpo⟩ : ∃ po, (if c2 = lo then o2 else Option.map (fun x => x.add lo) o2) = po := ⟨_, rfl⟩
        have kb : Below wr.heap.size wr (wr.alloc (.cells #[.slice so sn sc, .slice ro rn rc] 36)).drew := (box_below wr (.cells #[.slice so sn sc, .slice ro rn rc] 36)).drew
        obtain ⟨v0, v1, _, _⟩ := box2 (W := (wr.alloc (.cells #[.slice so sn sc, .slice ro rn rc] 36)).drew) (allocNew wr (.cells #[.slice so sn sc, .slice ro rn rc] 36))
        obtain ⟨j0, j1, _, _, _, _⟩ := box3 (XV.below kb).j.box
        obtain ⟨q0, q1, _, _⟩ := box2 (O.below kb).box
        have HLO : Hid (k * z = lo) := hlo
        have HM3 : Hid (hi - lo = z) := m3
        clear hlo hhi
        have ljb : jb < W1.heap.size := (Array.getElem?_eq_some_iff.1 X1.j.box).1
        have lgb : gb < wr.heap.size := (Array.getElem?_eq_some_iff.1 O.box).1
        have hlay : Calls Tryz.prog 42 #[.slice po z (c2 - lo), .slice co cn cc, .agg #[.slice so sn sc, .slice ro rn rc]] (wr.alloc (.cells #[.slice so sn sc, .slice ro rn rc] 36)).drew fun e w' => (∃ v, e = .returned v) ∧ Ox W1 w' gb o1 n1 c1 o2 n2 c2 (fs ++ cmn xs n) (jnZ (cmn xs n) z xs (List.replicate (n * z) 0) (k + 1)) ∧ w'.cell? ⟨gb, 1, none⟩ = some (.slice o2 n2 c2) ∧ w'.cell? ⟨jb, 1, none⟩ = some (.slice co cn cc) ∧ w'.cell? ⟨wr.heap.size, 0, none⟩ = some (.slice so sn sc) ∧ w'.cell? ⟨wr.heap.size, 1, none⟩ = some (.slice ro rn rc) := by
          have O8 := O.below kb
          have X8 := XV.below kb
          have es8 := es.below kb (Nat.le_refl _)
          have ea8 := ea.below kb (Nat.le_refl _)
          have hsz : wr.heap.size < (wr.alloc (.cells #[.slice so sn sc, .slice ro rn rc] 36)).drew.heap.size := by show _ < (wr.alloc _).heap.size; simp
          have hal := ea.rd.len
          obtain ⟨ma, ml⟩ := mayA_zero (hv k hlt)
          rcases Nat.eq_zero_or_pos z with z0 | zp
          · have hcl := XV.j.c.rd.len
            have hsl := es.rd.len
            refine (lay_zero po z (c2 - lo) co cn cc so sn sc ro rn rc (xs k).1 _ es8.rd ma (wn_zero (hw k hlt) (by rw [HZ.out, z0]; rfl)) (by have := (hw k hlt).le; omega) hcn).mono fun e w' ⟨h1, h2⟩ => ⟨h1, ?_, ?_, ?_, ?_, ?_⟩
            · have e5 : jnZ (cmn xs n) z xs (List.replicate (n * z) 0) (k + 1) = jnZ (cmn xs n) z xs (List.replicate (n * z) 0) k := by
                rw [List.eq_nil_of_length_eq_zero (l := jnZ (cmn xs n) z xs (List.replicate (n * z) 0) (k + 1)) (by rw [jnZ_len, List.length_replicate, z0, Nat.mul_zero]), List.eq_nil_of_length_eq_zero (l := jnZ (cmn xs n) z xs (List.replicate (n * z) 0) k) (by rw [jnZ_len, List.length_replicate, z0, Nat.mul_zero])]
              rw [e5]; exact O8.below h2
            · exact (box2 (O8.below h2).box).2.1
            · exact (box3 (X8.below h2).j.box).2.1
            · exact (h2.cell (p := ⟨wr.heap.size, 0, none⟩) hsz).trans v0
            · exact (h2.cell (p := ⟨wr.heap.size, 1, none⟩) hsz).trans v1
          · have hlt2 : lo < hi := by have := HM3.out; omega
            rcases O8.a.own.2 with ⟨e3, h0⟩ | ⟨g, cap, cur, e3, hB2, hg2, hnc, hcm, hcs, ht⟩
            · omega
            · cases e3
              obtain ⟨cl, rfl⟩ : ∃ cl : List Value, cur = cl.toArray := ⟨cur.toList, by simp⟩
              rw [if_neg (by omega), Option.map_some, add_at, Nat.zero_add] at hpo
              subst hpo
              have hgw := (O.a.at g 0 rfl)
              have hcl : cl.length = c2 := by simpa using hcs
              refine (lay_any g lo z (c2 - lo) co cn cc so sn sc ro rn rc cl (cmn xs n) (xs k).1 (xs k).2 _ hg2 (by omega) HZ.out.symm X8.j.c.rd es8.rd ea8.rd (by rw [← ml, hal]) (hw k hlt) (fun b off _ e => by have := (X1.j.c.at b off e).2; omega) (fun b off _ e => by have := (es'.at b off e).2; omega) (fun b off _ e => by have := (ea'.at b off e).2; omega)).mono fun e w' ⟨h1, h2, h3⟩ => ⟨h1, ?_, ?_, ?_, ?_, ?_⟩
              · have := O8.laid hg2 (fun j hj => ea.rd.num j (by omega)) (by rw [hal]; exact h2) h3
                rw [← HLO.out] at this
                exact this
              · exact (box2 ((h3.block gb (Array.getElem?_eq_some_iff.1 O8.box).1 (fun e => O.na g 0 rfl (by simpa using e.symm))).trans O8.box)).2.1
              · exact (box3 ((h3.block jb (Array.getElem?_eq_some_iff.1 X8.j.box).1 (fun e => by simp only [Option.some.injEq] at e; omega)).trans X8.j.box)).2.1
              · exact (box2 ((h3.block wr.heap.size hsz (fun e => by simp only [Option.some.injEq] at e; omega)).trans (allocNew wr (.cells #[.slice so sn sc, .slice ro rn rc] 36)))).1
              · exact (box2 ((h3.block wr.heap.size hsz (fun e => by simp only [Option.some.injEq] at e; omega)).trans (allocNew wr (.cells #[.slice so sn sc, .slice ro rn rc] 36)))).2.1
        go_wp2
        go_region_held3 (fun V => V.cell? ⟨gb, 1, none⟩ = some (.slice o2 n2 c2) ∧ V.cell? ⟨jb, 1, none⟩ = some (.slice co cn cc) ∧ V.cell? ⟨wr.heap.size, 0, none⟩ = some (.slice so sn sc) ∧ V.cell? ⟨wr.heap.size, 1, none⟩ = some (.slice ro rn rc)) (first | exact ⟨q1, j1, v0, v1⟩ | assumption | exact ⟨t2, t3, t4, t5⟩)
          (first | (go_at_call 42; (with_reducible refine hlay.mono ?_); rintro e V9 ⟨⟨v, rfl⟩, O9, t2, t3, t4, t5⟩))
        go_wp2
        go_roundw
        case rel => exact ⟨k + 1, by omega, by go_num, O9⟩
        case measure => simp [intOf]; omega
      · obtain rfl : n = k := by omega
        have t1 : decide ((n : Int) < (n : Int)) = false := by simp
        obtain ⟨q0, q1, _, _⟩ := box2 O.box
        obtain ⟨y0, y1, y2, y3⟩ := box2 XV.r
        go_wp2
        (try simp only [Exit.inBlock, Exit.then])
        refine bodyPost_ret (v := .tuple #[.agg #[.slice o1 n1 c1, .slice o2 n2 c2], .int .i64 0]) (by rw [results_cell_tmp rfl]; go_simp) rfl ?_
        have lw := (Array.getElem?_eq_some_iff.1 X1.r).1
        exact ⟨_, _, _, _, _, _, rfl, (O.s.keep1 (set2 _ _ _ _ _ _) (fun b off e => by have := (O.s.at b off e).1; intro e'; simp only [Option.some.injEq] at e'; omega)).mono hX1, (O.a.keep1 (set2 _ _ _ _ _ _) (fun b off e => by have := (O.a.at b off e).1; intro e'; simp only [Option.some.injEq] at e'; omega)).mono hX1, below_set2 _ _ _ _ (X1.bel.trans (O.bel.mono hX1)) (Nat.le_refl _) (Nat.le_refl _)⟩
end Go.Proofs.YtelcagfaflpolaaGreat




namespace Go.Proofs.YtelcagfaflpolaaGreat

open Go.RowKit

set_option linter.unusedVariables false

theorem nth_rng {n j : Nat} {f : Nat → Int} (h : j < n) : nth ((List.range n).map f) j = f j := by
  rw [nth_lt (by simpa using h)]; simp
theorem com_nth {a b : List Int} {i : Nat} (h : i < Nat.max a.length b.length) : nth (com a b) i = max (ext a (Nat.max a.length b.length) i) (ext b (Nat.max a.length b.length) i) := by unfold com; exact nth_rng h
theorem wn_self {s : List Int} (h : mayF s = 0) : Wn s s := ⟨h, h, Nat.le_refl _, fun i hi => by unfold ext; rw [if_pos (by omega)]; simp⟩
theorem wn_new {cm b : List Int} (h : mayF (com cm b) = 0) (hb : mayF b = 0) : Wn (com cm b) b := by
  refine ⟨h, hb, by rw [com_len]; exact Nat.le_max_right _ _, fun i hi => ?_⟩
  rw [com_len] at hi ⊢
  rw [com_nth hi]
  exact Int.le_max_right _ _
theorem wn_grow {cm sh b : List Int} (w : Wn cm sh) (h : mayF (com cm b) = 0) : Wn (com cm b) sh := by
  refine ⟨h, w.ms, by rw [com_len]; exact Nat.le_trans w.le (Nat.le_max_left _ _), fun i hi => ?_⟩
  have hle := w.le
  rw [com_len] at hi ⊢
  rw [com_nth hi]
  have hN : cm.length ≤ Nat.max cm.length b.length := Nat.le_max_left _ _
  generalize Nat.max cm.length b.length = N at *
  refine Int.le_trans ?_ (Int.le_max_left _ _)
  by_cases c : N - cm.length ≤ i
  · have d := w.dom (i - (N - cm.length)) (by omega)
    unfold ext at *
    rw [if_pos c]
    by_cases c2 : N - sh.length ≤ i
    · rw [if_pos (show cm.length - sh.length ≤ i - (N - cm.length) by omega)] at d
      rw [if_pos c2, show i - (N - sh.length) = i - (N - cm.length) - (cm.length - sh.length) by omega]
      exact d
    · rw [if_neg (show ¬ cm.length - sh.length ≤ i - (N - cm.length) by omega)] at d
      rw [if_neg c2]; exact d
  · unfold ext
    rw [if_neg (show ¬ N - sh.length ≤ i by omega), if_neg c]
    exact Int.le_refl _

theorem nxt_cmn (xs : Nat → List Int × List Int) (n : Nat) : nxt xs n (xs n).1 = cmn xs (n + 1) := by
  unfold nxt
  rw [cmn]
  by_cases h : n = 0
  · subst h; rfl
  · rw [if_neg h, if_neg h]
/-- Does Add refuse array k? -/
def jA (fs : List Int) (xs : Nat → List Int × List Int) (k : Nat) : Int := addE fs xs k (xs k).1 (xs k).2
/-- The first refusal among k arrays. -/
def jF (fs : List Int) (xs : Nat → List Int × List Int) : Nat → Int
  | 0 => 0
  | k + 1 => if jF fs xs k = 0 then jA fs xs k else jF fs xs k
theorem jF_all {fs : List Int} {xs : Nat → List Int × List Int} : ∀ {n : Nat}, jF fs xs n = 0 → ∀ k, k < n → jA fs xs k = 0
  | 0, _, k, hk => by omega
  | n + 1, h, k, hk => by
    unfold jF at h
    by_cases c : jF fs xs n = 0
    · rw [if_pos c] at h
      by_cases e : k = n
      · rw [e]; exact h
      · exact jF_all c k (by omega)
    · rw [if_neg c] at h; exact absurd h c
theorem jF_stays {fs : List Int} {xs : Nat → List Int × List Int} {n : Nat} : ∀ {m : Nat}, n ≤ m → jF fs xs n ≠ 0 → jF fs xs m = jF fs xs n
  | 0, h, _ => by rw [show n = 0 by omega]
  | m + 1, h, c => by
    by_cases e : n = m + 1
    · rw [e]
    · have := jF_stays (m := m) (by omega) c
      show (if jF fs xs m = 0 then jA fs xs m else jF fs xs m) = _
      rw [this, if_neg c]
theorem jA_parts {fs : List Int} {xs : Nat → List Int × List Int} {k : Nat} (h : jA fs xs k = 0) : (k : Int) ≠ pr fs ∧ mayA (xs k).1 (xs k).2 = 0 ∧ mayF (cmn xs (k + 1)) = 0 ∧ mayF (fs ++ cmn xs (k + 1)) = 0 := by
  unfold jA addE at h
  by_cases c1 : (k : Int) = pr fs
  · rw [if_pos c1] at h; omega
  rw [if_neg c1] at h
  by_cases c2 : mayA (xs k).1 (xs k).2 = 0
  · rw [if_neg (by omega), nxt_cmn] at h
    by_cases c3 : mayF (cmn xs (k + 1)) ≠ 0 ∨ mayF (fs ++ cmn xs (k + 1)) ≠ 0
    · rw [if_pos c3] at h; omega
    · exact ⟨c1, c2, Classical.byContradiction fun e => c3 (.inl e), Classical.byContradiction fun e => c3 (.inr e)⟩
  · rw [if_pos c2] at h; omega
theorem join_wn {fs : List Int} {xs : Nat → List Int × List Int} : ∀ {n : Nat}, (∀ k, k < n → jA fs xs k = 0) → ∀ j, j < n → Wn (cmn xs n) (xs j).1
  | 0, _, j, hj => by omega
  | n + 1, h, j, hj => by
    obtain ⟨a1, a2, a3, a4⟩ := jA_parts (h n (by omega))
    have ms := (mayA_zero a2).1
    by_cases c : n = 0
    · subst c
      obtain rfl : j = 0 := by omega
      show Wn (if 0 = 0 then (xs 0).1 else _) _
      rw [if_pos rfl]
      exact wn_self ms
    · have e : cmn xs (n + 1) = com (cmn xs n) (xs n).1 := by rw [cmn, if_neg c]
      rw [e] at a3 ⊢
      by_cases e2 : j = n
      · rw [e2]; exact wn_new a3 ms
      · exact wn_grow (join_wn (fun k hk => h k (by omega)) j (by omega)) a3
theorem join_le {fs : List Int} {xs : Nat → List Int × List Int} (h0 : 0 ≤ pr fs) : ∀ {n : Nat}, (∀ k, k < n → jA fs xs k = 0) → (n : Int) ≤ pr fs
  | 0, _ => h0
  | n + 1, h => by
    have a := join_le h0 (n := n) (fun k hk => h k (by omega))
    have b := (jA_parts (h n (by omega))).1
    omega
end Go.Proofs.YtelcagfaflpolaaGreat
