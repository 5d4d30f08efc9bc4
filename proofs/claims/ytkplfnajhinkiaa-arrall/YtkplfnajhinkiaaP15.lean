
/- ArrAll, given that every call plays: the script is opened, the statement follows. -/

import Derived.Test.YtkplfnajhinkiaaP14

namespace Go.Proofs.Ytkplfnajhinkiaa

open Go.ChangeShapes Go.WideShapes Go.ChangeAt Go.RowKit

set_option linter.unusedVariables false

theorem weightsAll_mem {H : Type} {P : Program} {e : TypeId} {ds : List (DataW H)} {d : DataW H} {n : Nat} (hd : d ∈ ds) (hn : n ∈ d.weights P e) : n ∈ DataW.weightsAll P e ds := by
  induction ds with
  | nil => cases hd
  | cons x xs ih =>
    rw [DataW.weightsAll, List.mem_append]
    rcases List.mem_cons.1 hd with rfl | h
    · exact .inl hn
    · exact .inr (ih h)

theorem allA_empty (a : Option Addr) (cap : Nat) (w : World) :
    Calls Try.prog 5 #[.slice a 0 cap] w fun e w' => e = .returned (.bool true) ∧ Below w.heap.size w w' := by
  go_enter Try.func5, Try.ntmps5
  go_wp2_with (go_at_call 18; refine (begun3_any _).mono ?_; rintro e w1 ⟨rfl, hb1⟩)
  have a1 := box_below w1 (.cells #[.slice none 0 0, .slice none 0 0] 52)
  have a2 := box_below (w1.alloc (.cells #[.slice none 0 0, .slice none 0 0] 52)) (.cells #[.slice none 0 0, .slice none 0 0] 52)
  refine wp_loop_rounds 1 ?_
  rw [rounds_succ]
  go_wp2
  go_returns
  exact ⟨rfl, below_to (below_to hb1 a1 (Nat.le_refl _)) a2 (Nat.le_refl _)⟩

theorem walkA (PA : ∀ (hb gb B : Nat) (K N I : Int) (so : Option Addr) (sn sc : Nat) (ao : Option Addr) (an ac : Nat) (uo : Option Addr) (tn tc : Nat) (bo : Option Addr) (bn bc : Nat) (lo : Option Addr) (ln lc : Nat) (s a t b l : List Int) (go0 go1 ho0 ho1 : Option Addr) (n0 n1 m0 m1 : Nat) (w : World) (rs : Rd w so sn s) (ra : Rd w ao an a) (rt : Rd w uo tn t) (rb : Rd w bo bn b) (rl : Rd w lo ln l) (ls : (0 < sn → ∀ b off, so = some ⟨b, off, none⟩ → b < B)) (la : (0 < an → ∀ b off, ao = some ⟨b, off, none⟩ → b < B)) (lt : (0 < tn → ∀ b off, uo = some ⟨b, off, none⟩ → b < B)) (lb : (0 < bn → ∀ b off, bo = some ⟨b, off, none⟩ → b < B)) (ll : (0 < ln → ∀ b off, lo = some ⟨b, off, none⟩ → b < B)) (hB : B ≤ w.heap.size) (h : Hx w B hb go0 n0 go1 n1) (g : Hx w B gb ho0 m0 ho1 m1) (d : Dis hb gb go0 go1 ho0 ho1) (ss : Sl so sn sc) (sa : Sl ao an ac) (st : Sl uo tn tc) (sb : Sl bo bn bc) (sl : Sl lo ln lc) (hN1 : -9223372036854775808 ≤ N) (hN2 : N ≤ 9223372036854775807) (hI1 : -9223372036854775808 ≤ I) (hI2 : I ≤ 9223372036854775807), Calls Try.prog 19 #[.agg #[.int .i64 K, .slice so sn sc, .slice ao an ac, .slice uo tn tc, .slice bo bn bc, .int .i64 N, .int .i64 I, .slice lo ln lc], .pointer (some ⟨hb, 0, none⟩), .pointer (some ⟨gb, 0, none⟩)] w fun e w' => e = .returned (.bool true) ∧ ∃ r0 r1 q0 q1, (∃ m0 m1, Hx w' B hb r0 m0 r1 m1) ∧ (∃ m0 m1, Hx w' B gb q0 m0 q1 m1) ∧ Dis hb gb r0 r1 q0 q1 ∧ Below B w w') {H : Type} {enc : TypeId × Value → H} {W : World} {fuel : Nat} {v : Value} {x : DataW H × List MemPlace} (h : DataW.trod enc Try.prog W 0 (fun _ => true) true fuel 48 v.cells.toList = some x) (hv : ∃ a len cap, v = .slice a len cap)
    (hz : ∀ n ∈ x.1.weights Try.checked.prog 48, n ≤ 140737488351232) :
    Calls Try.prog 5 #[v] W fun e w' => e = .returned (.bool true) ∧ Below W.heap.size W w' := by
  obtain ⟨a0, len0, cap0, rfl⟩ := hv
  rcases Go.Deep.open_slice Try.underlying48 h with ⟨hcs, _⟩ | ⟨a, len, cap, m, n, D, Pl, hcs, _, hl, hm, hmm, hx, hel⟩
  · simp [Value.cells] at hcs
    obtain ⟨rfl, rfl, rfl⟩ := hcs
    exact allA_empty none 0 W
  · simp [Value.cells] at hcs
    obtain ⟨rfl, rfl, rfl⟩ := hcs
    simp at hmm
    subst hmm
    by_cases h0 : len0 = 0
    · subst h0
      exact allA_empty (some a) _ W
    · have hq : ∀ i, i < len0 → ∃ q : OpQ, (W.cell? ((a.add (i * 8)).add 0) = some (.int .i64 q.K) ∧ W.cell? ((a.add (i * 8)).add 1) = some (.slice q.so q.sn q.sc) ∧ W.cell? ((a.add (i * 8)).add 2) = some (.slice q.ao q.an q.ac) ∧ W.cell? ((a.add (i * 8)).add 3) = some (.slice q.uo q.tn q.tc) ∧ W.cell? ((a.add (i * 8)).add 4) = some (.slice q.bo q.bn q.bc) ∧ W.cell? ((a.add (i * 8)).add 5) = some (.int .i64 q.N) ∧ W.cell? ((a.add (i * 8)).add 6) = some (.int .i64 q.I) ∧ W.cell? ((a.add (i * 8)).add 7) = some (.slice q.lo q.ln q.lc)) ∧ OkQ W q := by
        intro i hi
        obtain ⟨cs', h1, h2⟩ := hel i (by omega)
        rw [cellsOp] at h1
        refine elemA h1 h2 (fun n hn => hz n ?_)
        rw [hx]
        simp only [DataW.weights, show Try.checked.prog.underlying 48 = _ from Try.underlying48]
        have hm' : n ∈ DataW.weightsAll Try.checked.prog 57 ((List.range len0).map D) := weightsAll_mem (List.mem_map.2 ⟨i, List.mem_range.2 hi, rfl⟩) hn
        exact List.mem_cons_of_mem _ (List.mem_append.2 (.inl hm'))
      have inh : Inhabited OpQ := ⟨⟨0, 0, 0, none, 0, 0, none, 0, 0, none, 0, 0, none, 0, 0, none, 0, 0, [], [], [], [], []⟩⟩
      obtain ⟨f, hf⟩ := Go.Deep.choose_lt hq
      obtain ⟨b, off, spot⟩ := a
      have hzz := (hf 0 (by omega)).1.1
      have hspot : spot = none := by simpa [Addr.add] using World.cell?_spot hzz
      subst hspot
      have hb : b < W.heap.size := by
        have hbb := World.block_lt_of_cell? W _ hzz
        rw [add_at, add_at] at hbb
        exact hbb
      unfold maxLen at hm
      refine allA_walk PA b off len0 _ f W hb (by omega) ?_ (fun i hi => (hf i hi).2)
      intro i hi
      obtain ⟨⟨k0, k1, k2, k3, k4, k5, k6, k7⟩, _⟩ := hf i hi
      rw [add_at, add_at] at k0 k1 k2 k3 k4 k5 k6 k7
      exact ⟨k0, k1, k2, k3, k4, k5, k6, k7⟩

set_option maxRecDepth 100000 in
theorem liftedA (PA : ∀ (hb gb B : Nat) (K N I : Int) (so : Option Addr) (sn sc : Nat) (ao : Option Addr) (an ac : Nat) (uo : Option Addr) (tn tc : Nat) (bo : Option Addr) (bn bc : Nat) (lo : Option Addr) (ln lc : Nat) (s a t b l : List Int) (go0 go1 ho0 ho1 : Option Addr) (n0 n1 m0 m1 : Nat) (w : World) (rs : Rd w so sn s) (ra : Rd w ao an a) (rt : Rd w uo tn t) (rb : Rd w bo bn b) (rl : Rd w lo ln l) (ls : (0 < sn → ∀ b off, so = some ⟨b, off, none⟩ → b < B)) (la : (0 < an → ∀ b off, ao = some ⟨b, off, none⟩ → b < B)) (lt : (0 < tn → ∀ b off, uo = some ⟨b, off, none⟩ → b < B)) (lb : (0 < bn → ∀ b off, bo = some ⟨b, off, none⟩ → b < B)) (ll : (0 < ln → ∀ b off, lo = some ⟨b, off, none⟩ → b < B)) (hB : B ≤ w.heap.size) (h : Hx w B hb go0 n0 go1 n1) (g : Hx w B gb ho0 m0 ho1 m1) (d : Dis hb gb go0 go1 ho0 ho1) (ss : Sl so sn sc) (sa : Sl ao an ac) (st : Sl uo tn tc) (sb : Sl bo bn bc) (sl : Sl lo ln lc) (hN1 : -9223372036854775808 ≤ N) (hN2 : N ≤ 9223372036854775807) (hI1 : -9223372036854775808 ≤ I) (hI2 : I ≤ 9223372036854775807), Calls Try.prog 19 #[.agg #[.int .i64 K, .slice so sn sc, .slice ao an ac, .slice uo tn tc, .slice bo bn bc, .int .i64 N, .int .i64 I, .slice lo ln lc], .pointer (some ⟨hb, 0, none⟩), .pointer (some ⟨gb, 0, none⟩)] w fun e w' => e = .returned (.bool true) ∧ ∃ r0 r1 q0 q1, (∃ m0 m1, Hx w' B hb r0 m0 r1 m1) ∧ (∃ m0 m1, Hx w' B gb q0 m0 q1 m1) ∧ Dis hb gb r0 r1 q0 q1 ∧ Below B w w') (os : Os) (started : os.Started) (H : Type) (enc : TypeId × Value → H) :
    ReturnsInHanded {} Try.checked os 5 .any (Rows.arrAllSpec.pre6 enc Try.prog Try.f5 Rows.arrAllRow.domain false) (Rows.arrAllSpec.post enc Try.prog Try.f5 false true false false) := by
  refine returnsInHanded_of_change_sized (C := Try.checked) own started (by kernel_rfl) Try.func5
    (ChangeSpec.witness6 (enc := enc) (C := Try.checked) false ⟨#[], #[.slice none 0 0], []⟩ 8 (by kernel_rfl) (by kernel_rfl) (by kernel_rfl) (by kernel_rfl)) ?_
  intro W base args ds gs before hval0 hW hcnd hsz0 _
  have hval : ∀ (j : Nat) t v, Try.f5.params[j]? = some t → args[j]? = some v → Value.okWide Try.prog W .any base t v := hval0
  have hW' := hW
  obtain ⟨p, q, hA0, hV, rfl, hfz, hnd⟩ := hW
  have hA : DataW.TrodAll enc Try.prog W 0 (fun _ => true) true Try.f5.params.toList args.toList ds p := hA0
  rw [Try.params5] at hA hval
  obtain ⟨v0, vs0, d0, ds0, p0, q0, hargs, rfl, rfl, h0, r0⟩ := trodAll_cons hA
  obtain ⟨rfl, rfl, rfl⟩ := trodAll_nil r0
  obtain rfl : args = #[v0] := by cases args; simp_all
  obtain ⟨rfl, rfl⟩ := trodVars_none hV
  have hsz : (DataW.weightsEach Try.checked.prog [48] [d0]).all (· ≤ reachBytes) = true := hsz0
  have hsl := okWide_slice Try.underlying48 (hval 0 48 v0 rfl rfl)
  have k0 := h0
  have lt0 : ∀ x ∈ p0, x.block < W.heap.size := by obtain ⟨m, hm⟩ := k0; exact DataW.trod_lt m _ _ _ hm
  obtain ⟨f0, g0⟩ := h0
  clear hA0 hval0
  refine (walkA PA g0 hsl (weights_at hsz (j := 0) rfl rfl)).mono fun e W' ⟨he, bel⟩ => ?_
  subst he
  exact ⟨_, rfl, _, _, _, [], _, [], hW', trodAll_mk1 (shut_bool Try.underlying4 _), (trodAll_cons_mk (Below.trod laidOut (by kernel_rfl) (of_decide_eq_true (by kernel_rfl)) k0 bel lt0) trodAll_mk0), rfl, bel.frame _, fun h => by cases h⟩
end Go.Proofs.Ytkplfnajhinkiaa
