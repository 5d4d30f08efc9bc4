
/- Contracts of package seek: new places, numbers, the items at some places. -/

import Derived.Test.YtmepcenbaohcoaaGreatYI

import Derived.Maps.AppendAt

import Derived.OrdersHeld

import Derived.RegionTactic

namespace Go.Proofs.YtmepcenbaohcoaaGreat

open Go.RowKit

set_option linter.unusedVariables false

/-- An append to a list of one's own: what else becomes of the world, and where the list then lies. -/
theorem run_joinW {s e : TypeId} (ty : Ty s e) {w : World} (tt : TypeId) (B : Nat) (ao bo : Option Addr) (n cap m cap' : Nat) (zs ys : List Int) (h : Ft e w B ao n cap zs) (g : Rd w bo m ys) (gs : Sl bo m cap') (hr : (n + m) * 8 ≤ 140737488351232) (hB : B ≤ w.heap.size) :
    ∃ co c w', (Builtin.append_ #[s, s] tt #[.slice ao n cap, .slice bo m cap']).run Tryz.prog w = .ok (.slice co (n + m) c) w' ∧ Ft e w' B co (n + m) c (zs ++ ys) ∧ w.grownBy w' (Value.slice ao n cap).ownBlock ∧ ((Value.slice co (n + m) c).ownBlock = (Value.slice ao n cap).ownBlock ∨ (Value.slice co (n + m) c).ownBlock = some w.heap.size) := by
  obtain ⟨i0, hi, hz0, hz1, hz2⟩ := info_parts ty.info
  have hl := h.rd.len
  have gl := g.len
  have hnum : ∀ k, k < n + m → -9223372036854775808 ≤ nth (zs ++ ys) k ∧ nth (zs ++ ys) k ≤ 9223372036854775807 := by
    intro k hk
    by_cases c : k < n
    · have e : nth (zs ++ ys) k = nth zs k := by unfold nth; simp [List.getElem?_append, hl, c]
      rw [e]; exact h.rd.num k c
    · have e : nth (zs ++ ys) k = nth ys (k - n) := by unfold nth; simp [List.getElem?_append, hl, c]
      rw [e]; exact g.num _ (by omega)
  have fin : ∀ v w', w'.ownsRow B e 1 v (n + m) (zs.map (Value.int .i64) ++ ys.map (Value.int .i64)) → ∃ co c, v = .slice co (n + m) c ∧ Ft e w' B co (n + m) c (zs ++ ys) := fun v w' ho =>
    Ft.mk' (by simp [hl, gl]) hr hnum (by rw [List.map_append]; exact ho)
  cases bo with
  | none =>
    obtain ⟨rfl, rfl⟩ := gs.nil rfl
    have hy : ys = [] := List.eq_nil_of_length_eq_zero gl
    subst hy
    have hrun := run_append_owned_none (P := Tryz.prog) (w := w) B s tt e i0 1 ty.und hi _ n _ h.own
    refine ⟨ao, cap, w, hrun, ?_, World.grownBy.refl _ _, .inl ?_⟩
    · rw [List.append_nil]; exact h
    · cases ao <;> rfl
  | some a =>
    have hnews : ∀ j u, (ys.map (Value.int .i64))[j]? = some u → w.cell? (a.add j) = some u := by
      intro j u hu
      have hj : j < m := by
        have := (List.getElem?_eq_some_iff.1 hu).1
        simpa [gl] using this
      obtain ⟨b, off, e, _, hc⟩ := g.cells (by omega)
      cases e
      exact Rd.news gl hc j u hu
    obtain ⟨v', w', hrun, hown, hgrow, _, hat⟩ := run_append_own_at (P := Tryz.prog) w B s tt e i0 (.int .i64 0) 1 8 ty.und hi hz0 hz1 hz2 rfl (by decide) _ n _ h.own a m cap' (ys.map (Value.int .i64)) (by rw [List.length_map, gl, Nat.mul_one]) hnews (ints_one ys) (by unfold maxLen; omega) (by omega) hB
    obtain ⟨co, c, rfl, hf⟩ := fin _ _ hown
    exact ⟨co, c, w', hrun, hf, hgrow, hat⟩

/-- The same as one step of a region that draws its order. -/
theorem step_joinW {s e : TypeId} (ty : Ty s e) {ops : Array Oper} {o : Oper} {a : Act} {w : World} {K : Act → World → Prop} {Q : Exit → Act → World → Prop} {E : Prop}
    (hg : o.guard = none) (p x : Operand) (ho : o.op = .call { callee := .builtin .append, args := #[p, x], argTypes := #[s, s] }) (B : Nat) (N : Nat) (ao bo : Option Addr) (n cap m cap' : Nat) (zs ys : List Int) (hN : n + m = N)
    (hs : a.eval p = .slice ao n cap) (hx : a.eval x = .slice bo m cap') (h : Ft e w B ao n cap zs) (g : Rd w bo m ys) (gs : Sl bo m cap') (hr : (n + m) * 8 ≤ 140737488351232) (hB : B ≤ w.heap.size)
    (hK : ∀ co c w', Ft e w' B co N c (zs ++ ys) → w.grownBy w' (Value.slice ao n cap).ownBlock → ((Value.slice co N c).ownBlock = (Value.slice ao n cap).ownBlock ∨ (Value.slice co N c).ownBlock = some w.heap.size) → K (a.put o.dst (.slice co N c)) w') :
    if Region.wanted o (yielded ops a.tmps) = true then Oper.wp Tryz.prog o a w K Q else E := by
  subst hN
  have hw : Region.wanted o (yielded ops a.tmps) = true := by simp [Region.wanted, hg]
  rw [if_pos hw]
  obtain ⟨co, c, w', hrun, hf, h1, h2⟩ := run_joinW ty o.type B ao bo n cap m cap' zs ys h g gs hr hB
  unfold Oper.wp
  simp [execOp, ho, resolve, invoke, builtin, hs, hx, hrun, Result.andThen]
  exact hK _ _ _ hf h1 h2

section

variable {P : Program} {ops : Array Oper} {Q : Exit → Act → World → Prop} {md : Region.Mode} {S : World → Prop} {A : Nat → Bool}

/-- Whatever order is picked from here on, and S holds behind those operations that A names. -/
def wpAnyR (P : Program) (md : Region.Mode) (ops : Array Oper) (Q : Exit → Act → World → Prop) (S : World → Prop) (A : Nat → Bool) : Nat → Array Bool → Act → World → Prop
  | 0, listed, a, w => Region.ready md ops listed = [] ∧ Q .normal a w
  | fuel + 1, listed, a, w =>
    (Region.ready md ops listed = [] → Q .normal a w) ∧
    ∀ i ∈ Region.ready md ops listed, wpOp P ops Q i (fun a' w' => (A i = true → S w') ∧ wpAnyR P md ops Q S A fuel (listed.setIfInBounds i true) a' w') a w
theorem wpAny_of_R : ∀ (fuel : Nat) (listed : Array Bool) (a : Act) (w : World), wpAnyR P md ops Q S A fuel listed a w → wpAny P md ops Q fuel listed a w
  | 0, _, _, _, h => h
  | fuel + 1, _, _, _, h => ⟨h.1, fun i hi => wpOp_mono (fun a' w' h' => wpAny_of_R fuel _ a' w' h'.2) (h.2 i hi)⟩
theorem wpAnyR_first {i : Nat} {oi : Oper} {v : Value} (hi : ops[i]? = some oi) (hsel : ∀ (j : Nat) (o : Oper) cs b, ops[j]? = some o → o.op ≠ .select cs b)
    (hQ : ∀ c a w, Q (.panic c) (a.put oi.dst v) w → Q (.panic c) a w) (hA : ∀ j oj, ops[j]? = some oj → A j = false → ∃ e ∈ oj.after, Region.binds md e = true ∧ e.on = i) :
    ∀ (fuel : Nat) (listed : Array Bool) (a : Act) (w : World),
      (∀ j oj, ops[j]? = some oj → j ≠ i → listed.getD j true = false → (∀ e ∈ oj.after, Region.binds md e = true → e.on ≠ i) → oi.apart ops oj = true) →
      i ∈ Region.ready md ops listed → YieldsIf P ops S oi v a → S w →
      wpAnyR P md ops Q S A fuel (listed.setIfInBounds i true) (a.put oi.dst v) w → wpAnyR P md ops Q S A (fuel + 1) listed a w := by
  intro fuel
  induction fuel with
  | zero =>
    intro listed a w _ hr hy hS H
    refine ⟨fun h => (by rw [h] at hr; cases hr), fun j hj => ?_⟩
    by_cases hji : j = i
    · subst hji; exact hy.wpOp hi hS ⟨fun _ => hS, H⟩
    · have := ready_mono hj hji
      rw [H.1] at this
      cases this
  | succ fuel ih =>
    intro listed a w hfree hr hy hS H
    refine ⟨fun h => (by rw [h] at hr; cases hr), fun j hj => ?_⟩
    by_cases hji : j = i
    · subst hji; exact hy.wpOp hi hS ⟨fun _ => hS, H⟩
    · have h1 := H.2 j (ready_mono hj hji)
      obtain ⟨hjun, oj, hoj, hall⟩ := mem_ready.1 hj
      have hnot : ∀ e ∈ oj.after, Region.binds md e = true → e.on ≠ i := fun e he hb heq => by
        have h1 := hall e he hb
        have h0 := (mem_ready.1 hr).1
        rw [heq] at h1
        rcases Nat.lt_or_ge i listed.size with h' | h'
        · simp [h'] at h0 h1; rw [h0] at h1; cases h1
        · simp [Array.getElem?_eq_none h'] at h1
      have hAj : A j = true := by
        cases hc : A j with
        | true => rfl
        | false =>
          obtain ⟨e, he, hb, ho⟩ := hA j oj hoj hc
          exact absurd ho (hnot e he hb)
      have h2 := wpOp_putIf hoj (hfree j oj hoj hji hjun hnot) (fun cs b => hsel i oi cs b hi) (fun cs b => hsel j oj cs b hoj) hQ hy h1
      have hfree' : ∀ k ok, ops[k]? = some ok → k ≠ i → (listed.setIfInBounds j true).getD k true = false →
          (∀ e ∈ ok.after, Region.binds md e = true → e.on ≠ i) → oi.apart ops ok = true := fun k ok hk hki hun hno => by
        refine hfree k ok hk hki ?_ hno
        by_cases hjk : j = k
        · subst hjk; exact hjun
        · rw [getD_set_ne true hjk] at hun; exact hun
      refine wpOp_mono (fun a' w' h3 => ⟨h3.2.1, ih (listed.setIfInBounds j true) a' w' hfree' (ready_mono hr (Ne.symm hji)) h3.1 (h3.2.1 hAj) ?_⟩) h2
      rw [Array.setIfInBounds_comm _ _ hji]
      exact h3.2.2
/-- Do all that A does not name wait for i? -/
def waitsAll (md : Region.Mode) (ops : Array Oper) (A : Nat → Bool) (i : Nat) : Bool := (List.range ops.size).all fun j => A j || (match ops[j]? with | some oj => oj.after.any fun e => Region.binds md e && e.on == i | none => true)
theorem waitsAll_spec {i : Nat} (h : waitsAll md ops A i = true) : ∀ j oj, ops[j]? = some oj → A j = false → ∃ e ∈ oj.after, Region.binds md e = true ∧ e.on = i := fun j oj hj hA => by
  unfold waitsAll at h
  have := List.all_eq_true.1 h j (List.mem_range.2 (Array.getElem?_eq_some_iff.1 hj).1)
  rw [hA, hj] at this
  simp only [Bool.false_or] at this
  obtain ⟨n, hn, hx⟩ := Array.any_eq_true.1 this
  rw [Bool.and_eq_true] at hx
  exact ⟨_, Array.getElem_mem hn, hx.1, by simpa using hx.2⟩
theorem wpAnyR_take {i : Nat} {oi : Oper} {v : Value} {fuel : Nat} {listed : Array Bool} {a : Act} {w : World} (hi : ops[i]? = some oi)
    (hs : Region.noSelect ops = true) (hf : Region.free md ops listed i = true) (hr : (Region.ready md ops listed).contains i = true) (hA : waitsAll md ops A i = true)
    (hQ : ∀ c a w, Q (.panic c) (a.put oi.dst v) w → Q (.panic c) a w) (hy : YieldsIf P ops S oi v a) (hS : S w)
    (h : wpAnyR P md ops Q S A fuel (listed.setIfInBounds i true) (a.put oi.dst v) w) : wpAnyR P md ops Q S A (fuel + 1) listed a w :=
  wpAnyR_first hi (Region.noSelect_spec hs) hQ (waitsAll_spec hA) fuel listed a w (Region.free_spec hi hf) (by simpa using hr) hy hS h
theorem wpAnyR_one {i : Nat} {o : Oper} {fuel : Nat} {listed : Array Bool} {a : Act} {w : World} (hr : Region.ready md ops listed = [i]) (ho : ops[i]? = some o)
    (h : ∀ K' : Act → World → Prop, (∀ a w, ((A i = true → S w) ∧ wpAnyR P md ops Q S A fuel (listed.setIfInBounds i true) a w) → K' a w) → if Region.wanted o (yielded ops a.tmps) = true then Oper.wp P o a w K' Q else K' (a.put o.dst undef) w) : wpAnyR P md ops Q S A (fuel + 1) listed a w :=
  ⟨fun h0 => (by rw [hr] at h0; cases h0), fun j hj => by
    rw [hr, List.mem_singleton] at hj
    subst hj
    exact wpOp_step ho h⟩
theorem wpAnyR_done {listed : Array Bool} {a : Act} {w : World} (hr : Region.ready md ops listed = []) (h : Q .normal a w) : ∀ fuel, wpAnyR P md ops Q S A fuel listed a w
  | 0 => ⟨hr, h⟩
  | _ + 1 => ⟨fun _ => h, by rw [hr]; simp⟩
theorem wp_region_R {id : Nat} {a : Act} {w : World} (S : World → Prop) (A : Nat → Bool) (hm : P.follows .mixedOrders = true)
    (h : wpAnyR P .any ops Q S A ops.size (Array.replicate ops.size false) a w.drew) : (Code.region id ops true).wp P Q a w :=
  wp_region_any hm (wpAny_of_R _ _ _ _ h)
end

/-- A row of numbers lies in no box. -/
theorem Ft.nebox {e t : TypeId} {V : World} {B : Nat} {o : Option Addr} {n c b : Nat} {zs : List Int} {cs : Array Value} (h : Ft e V B o n c zs) (hb : V.heap[b]? = some (.cells cs t (0, 0))) (ht : e ≠ t) : ∀ b' off, o = some ⟨b', off, none⟩ → some b' ≠ some b := by
  intro b' off e1 e2
  injection e2 with e2
  subst e2
  rcases h.own.2 with ⟨e3, h0⟩ | ⟨g', c', cur, e3, hB2, hg, r⟩
  · injection e3 with e4 e5 e6
    rw [e4] at e1; cases e1
  · injection e3 with e4 e5 e6
    rw [e4] at e1; cases e1
    rw [hg] at hb
    injection hb with hb
    injection hb with _ hb2
    exact ht hb2
theorem Ft.obk {e : TypeId} {V : World} {B : Nat} {o : Option Addr} {n c : Nat} {zs : List Int} (h : Ft e V B o n c zs) {b : Nat} (hb : (Value.slice o n c).ownBlock = some b) : ∃ off, o = some ⟨b, off, none⟩ := by
  rcases h.own.2 with ⟨e3, h0⟩ | ⟨g', c', cur, e3, hB2, hg, r⟩
  · injection e3 with e4 e5 e6
    subst e4 e5 e6
    simp [Value.ownBlock] at hb
  · injection e3 with e4 e5 e6
    subst e4
    simp [Value.ownBlock] at hb
    subst hb
    exact ⟨_, rfl⟩
end Go.Proofs.YtmepcenbaohcoaaGreat

namespace Go.Proofs.YtmepcenbaohcoaaGreat

open Go.RowKit

set_option linter.unusedVariables false

theorem tyIQ : Ty 25 3 := ⟨by kernel_rfl, by kernel_rfl⟩
/-- The places, of the first k, that are their own. -/
def nwo (fs : List Int) (k : Nat) : List Int := ((List.range k).filter (fun i => decide (nth fs i = (i : Int)))).map (fun i : Nat => (i : Int))
theorem nwo_succ (fs : List Int) (k : Nat) : nwo fs (k + 1) = nwo fs k ++ (if nth fs k = (k : Int) then [(k : Int)] else []) := by
  unfold nwo
  rw [List.range_succ, List.filter_append, List.map_append]
  congr 1
  by_cases h : nth fs k = (k : Int)
  · simp [h]
  · simp [h]
theorem nwo_len (fs : List Int) (k : Nat) : (nwo fs k).length ≤ k := by
  unfold nwo
  rw [List.length_map]
  exact Nat.le_trans (List.length_filter_le _ _) (by simp)
theorem nwo_mem {fs : List Int} {k : Nat} {x : Int} (h : x ∈ nwo fs k) : 0 ≤ x ∧ x < k := by
  unfold nwo at h
  obtain ⟨i, hi, rfl⟩ := List.mem_map.1 h
  have := List.mem_range.1 (List.mem_filter.1 hi).1
  omega

set_option maxHeartbeats 2000000 in
theorem newOnes_any (fo : Option Addr) (n fc : Nat) (fs : List Int) (w : World) (h : Rd w fo n fs) (hn : n ≤ 4096) :
    Calls Tryz.prog 66 #[.slice fo n fc] w fun e w' => ∃ oo m oc, e = .returned (.slice oo m oc) ∧ Ft 3 w' w.heap.size oo m oc (nwo fs n) ∧ Below w.heap.size w w' := by
  go_enter Tryz.func66, Tryz.ntmps66
  go_wp2
  go_loopw [3, 8] (fun sv i V => ∃ (k : Nat) (oo : Option Addr) (m oc : Nat), k ≤ n ∧ i = .int .i64 (k : Nat) ∧ sv = .slice oo m oc ∧ Ft 3 V w.heap.size oo m oc (nwo fs k) ∧ Below w.heap.size w V) (fun _ i _ => n - (intOf i).toNat)
  case atStart => exact ⟨0, none, 0, 0, Nat.zero_le _, rfl, rfl, Ft.nil _ _ _, Below.refl _ _⟩
  case round =>
    obtain ⟨k, oo, m, oc, hk, rfl, rfl, F, B⟩ := hrel
    by_cases hlt : k < n
    · obtain ⟨b, off, rfl, hb, hc⟩ := (h.below B (Nat.le_refl _)).cells (by omega)
      have c1 := hc k hlt
      have t1 : decide ((k : Int) < (n : Int)) = true := by simp; omega
      have bk : (k : Int) < (n : Int) := by omega
      have wk := wrY (z := (k : Int) + 1) (by omega) (by omega)
      have hs := nwo_succ fs k
      have hl := nwo_len fs k
      rw [F.rd.len] at hl
      clear hc
      generalize hx : nth fs k = x at *
      by_cases he : x = (k : Int)
      · have t2 : ((k : Int) == x) = true := by simp; omega
        rw [if_pos he] at hs
        have hs2 := B.size
        have HS : Hid (nwo fs (k + 1) = nwo fs k ++ [(k : Int)]) := hs
        clear hs he hx
        go_wp2_with (at_builtin; refine wpList_joinT tyIQ rfl _ _ rfl w.heap.size oo (some ⟨wr.heap.size, 0, none⟩) m oc 1 1 _ [(k : Int)] rfl rfl (F.below (box_below wr _) (Nat.le_refl _)) (ft_new 3 wr [(k : Int)] (by simp) (fun j hj => by rw [show j = 0 by simp at hj; omega, show nth [(k : Int)] 0 = (k : Int) from rfl]; omega)).rd (ft_new 3 wr [(k : Int)] (by simp) (fun j hj => by rw [show j = 0 by simp at hj; omega, show nth [(k : Int)] 0 = (k : Int) from rfl]; omega)).sl (by omega) (by simp; omega) ?_; intro co3 c3 w3 f3 b3)
        go_roundw
        case rel => exact ⟨k + 1, co3, m + 1, c3, by omega, by go_num, rfl, by rw [HS.out]; exact f3, B.trans (((box_below wr _).mono hs2).trans b3)⟩
        case measure => simp [intOf]; omega
      · have t2 : ((k : Int) == x) = false := by simp; omega
        rw [if_neg he, List.append_nil] at hs
        have HS : Hid (nwo fs (k + 1) = nwo fs k) := hs
        clear hs he hx
        go_wp2
        go_roundw
        case rel => exact ⟨k + 1, oo, m, oc, by omega, by go_num, rfl, by rw [HS.out]; exact F, B⟩
        case measure => simp [intOf]; omega
    · obtain rfl : k = n := by omega
      have t1 : decide ((k : Int) < (k : Int)) = false := by simp
      go_wp2
      go_ret
      exact ⟨oo, m, oc, rfl, F, B⟩

theorem infoLQ : (Tryz.prog.info? 2).map (fun i => (i.zero, i.size, i.bytes)) = some (some (.int .i64 0), 1, 8) := by kernel_rfl
/-- A row of numbers of the kind int64, in block g of a world that is W below g. -/
structure Rl (g n : Nat) (W V : World) (zs : List Int) : Prop where
  bel : Below g W V
  row : Ft 2 V g (some ⟨g, 0, none⟩) n n zs
theorem Rl.made (U : World) (n : Nat) (hn : n ≤ 5000) : Rl U.heap.size n U (U.alloc (.cells (madeCells #[.int .i64 0] n) 2)) (List.replicate n 0) := ⟨box_below _ _, made_ftQ 2 U n (by omega)⟩
theorem Rl.len {g n : Nat} {W V : World} {zs : List Int} (h : Rl g n W V zs) : zs.length = n := h.row.rd.len
theorem Rl.lt {g n : Nat} {W V : World} {zs : List Int} (h : Rl g n W V zs) : g < V.heap.size := by
  rcases h.row.own.2 with ⟨e1, h0⟩ | ⟨g', c, cur, e1, hB2, hg, r⟩
  · cases e1
  · cases e1
    exact (Array.getElem?_eq_some_iff.1 hg).1
theorem Rl.below {g n : Nat} {W V V' : World} {zs : List Int} (h : Rl g n W V zs) (b : Below V.heap.size V V') : Rl g n W V' zs :=
  ⟨h.bel.trans (b.mono (Nat.le_of_lt h.lt)), h.row.below b (Nat.le_refl _)⟩
theorem Rl.slot {g n : Nat} {W V : World} {zs : List Int} (h : Rl g n W V zs) {j : Nat} (hj : j < n) : V.cell? ⟨g, j, none⟩ = some (.int .i64 (nth zs j)) ∧ V.frozen? ⟨g, j, none⟩ = false := by
  obtain ⟨b, off, e, hb, hc⟩ := h.row.rd.cells (by omega)
  cases e
  have c := hc j hj
  rw [Nat.zero_add] at c
  rcases h.row.own.2 with ⟨e1, h0⟩ | ⟨g', c', cur, e1, hB2, hg, r⟩
  · cases e1
  · cases e1
    exact ⟨c, frozen_of_row V g j _ _ hg⟩
theorem Rl.set {g n : Nat} {W V : World} {zs : List Int} (h : Rl g n W V zs) {i : Nat} (hi : i < n) (u : Int) (h1 : -9223372036854775808 ≤ u) (h2 : u ≤ 9223372036854775807) :
    Rl g n W (V.setCell ⟨g, i, none⟩ (.int .i64 u)) (zs.set i u) := ⟨h.bel.setCell (p := ⟨g, i, none⟩) (Nat.le_refl _) _, h.row.setY i hi u h1 h2⟩

set_option maxHeartbeats 2000000 in
theorem numbers_any (po : Option Addr) (n pc : Nat) (ps : List Int) (w : World) (h : Rd w po n ps) (hn : n ≤ 4096) :
    Calls Tryz.prog 69 #[.slice po n pc] w fun e w' => ∃ o1 c1 o2 c2, e = .returned (.agg #[.slice o1 1 c1, .slice o2 n c2]) ∧ Ft 3 w' w.heap.size o1 1 c1 [(n : Int)] ∧ Ft 2 w' w.heap.size o2 n c2 ps ∧ Below w.heap.size w w' := by
  have k1 := box_below w (.cells #[.slice none 0 0, .slice none 0 0] 30)
  have b1 := allocNew w (.cells #[.slice none 0 0, .slice none 0 0] 30)
  have hsz : (w.alloc (.cells #[.slice none 0 0, .slice none 0 0] 30)).heap.size = w.heap.size + 1 := by simp
  have hmk := fun (X : World) => run_make_row' (P := Tryz.prog) 26 2 (.int .i64 0) 8 Tryz.underlying26 infoLQ rfl .i64 .i64 n (by omega) (by omega) X
  have R0 := Rl.made (w.alloc (.cells #[.slice none 0 0, .slice none 0 0] 30)) n (by omega)
  rw [hsz] at R0
  have h1 := h.below k1 (Nat.le_refl _)
  go_enter Tryz.func69, Tryz.ntmps69
  go_wp2
  generalize w.alloc (.cells #[.slice none 0 0, .slice none 0 0] 30) = U at *
  clear hmk
  go_loopw [11] (fun i V => ∃ (k : Nat) (zs : List Int), k ≤ n ∧ i = .int .i64 (k : Nat) ∧ Rl (w.heap.size + 1) n U V zs ∧ ∀ j, j < k → nth zs j = nth ps j) (fun i _ => n - (intOf i).toNat)
  case atStart => exact ⟨0, _, Nat.zero_le _, rfl, R0, fun j hj => by omega⟩
  case round =>
    obtain ⟨k, zs, hk, rfl, R, Z⟩ := hrel
    clear R0
    by_cases hlt : k < n
    · have t1 : decide ((k : Int) < (n : Int)) = true := by simp; omega
      have bk : (k : Int) < (n : Int) := by omega
      have wk := wrY (z := (k : Int) + 1) (by omega) (by omega)
      have hnum := h.num k hlt
      have RV := h1.below R.bel (by rw [hsz]; exact Nat.le_refl _)
      obtain ⟨b, off, rfl, hb, hc⟩ := RV.cells (by omega)
      have cc := hc k hlt
      have wz := wrY hnum.1 hnum.2
      obtain ⟨c1, f1⟩ := R.slot hlt
      have R6 := R.set hlt (nth ps k) hnum.1 hnum.2
      clear hc
      have HZ : Hid (∀ j, j < k → nth zs j = nth ps j) := Z
      clear Z
      generalize hx : nth ps k = x at *
      have HX : Hid (nth ps k = x) := hx
      clear hx
      go_wp2
      go_roundw
      case rel => exact ⟨k + 1, _, by omega, by go_num, R6, fun j hj => by
        rw [nth_setY (by rw [R.len]; exact hlt)]
        split
        · rename_i e; rw [e, HX.out]
        · exact HZ.out j (by omega)⟩
      case measure => simp [intOf]; omega
    · obtain rfl : k = n := by omega
      have t1 : decide ((k : Int) < (k : Int)) = false := by simp
      have e : zs = ps := ext_nth (by rw [R.len, h.len]) (fun j hj => by rw [R.len] at hj; exact Z j hj)
      subst e
      have kb := box_below wr (.cells #[.int .i64 (k : Int)] 3)
      have rl := R.lt
      obtain ⟨r0, r1, r2, r3⟩ := box2 ((kb.block w.heap.size (by omega)).trans ((R.bel.block w.heap.size (by omega)).trans b1))
      have F1 := ft_new 3 wr [(k : Int)] (by simp) (fun j hj => by rw [show j = 0 by simp at hj; omega, show nth [(k : Int)] 0 = (k : Int) from rfl]; omega)
      have F2 := (R.below kb).row
      have kall := k1.trans ((R.below kb).bel.mono (by omega))
      go_wp2
      (try simp only [Exit.inBlock, Exit.then])
      refine bodyPost_ret (v := .agg #[.slice (some ⟨wr.heap.size, 0, none⟩) 1 1, .slice (some ⟨w.heap.size + 1, 0, none⟩) k k]) (by simp [results, Tryz.results69]; go_simp) rfl ?_
      have ks := set2 (wr.alloc (.cells #[.int .i64 (k : Int)] 3)) w.heap.size 0 1 (.slice (some ⟨wr.heap.size, 0, none⟩) 1 1) (.slice (some ⟨w.heap.size + 1, 0, none⟩) k k)
      refine ⟨_, _, _, _, rfl, (F1.keep1 ks (fun b off e => ?_)).mono (by omega), (F2.keep1 ks (fun b off e => ?_)).mono (by omega), below_set2 _ _ _ _ kall (Nat.le_refl _) (Nat.le_refl _)⟩
      · cases e; intro e'; injection e' with e'; omega
      · cases e; intro e'; injection e' with e'; omega

/-- Between two rounds of chosen: what is chosen lies in its box. -/
structure Cz (w V : World) (gg N : Nat) (xs : Nat → List Int × List Int) (o1 : Option Addr) (n1 c1 : Nat) (sh1 : List Int) (o2 : Option Addr) (n2 c2 : Nat) (zs : List Int) : Prop where
  bel : Below w.heap.size w V
  res : V.heap[w.heap.size + 1]? = some (.cells #[.slice none 0 0, .slice none 0 0] 30 (0, 0))
  out : V.heap[w.heap.size + 1 + 1 + 1]? = some (.cells #[.slice o1 n1 c1, .slice o2 n2 c2] 30 (0, 0))
  f1 : Ft 3 V w.heap.size o1 n1 c1 sh1
  f2 : Ft 2 V w.heap.size o2 n2 c2 zs
  itm : Cq gg N w V xs
  gt : w.heap.size + 1 + 1 + 1 < gg
theorem ty_ne1 : 3 ≠ 30 := by decide
theorem ty_ne2 : 2 ≠ 30 := by decide
theorem ty_ne3 : 3 ≠ 2 := by decide
theorem Cz.drew {w V : World} {gg N : Nat} {xs : Nat → List Int × List Int} {o1 : Option Addr} {n1 c1 : Nat} {sh1 : List Int} {o2 : Option Addr} {n2 c2 : Nat} {zs : List Int} (h : Cz w V gg N xs o1 n1 c1 sh1 o2 n2 c2 zs) : Cz w V.drew gg N xs o1 n1 c1 sh1 o2 n2 c2 zs := by
  have b : Below V.heap.size V V.drew := (Below.refl _ _).drew
  have l := (Array.getElem?_eq_some_iff.1 h.out).1
  exact ⟨h.bel.drew, (b.block _ (by omega)).trans h.res, (b.block _ l).trans h.out, h.f1.below b (Nat.le_refl _), h.f2.below b (Nat.le_refl _), h.itm.below b, h.gt⟩
/-- The atoms are grown, and what is answered is written into its box. -/
theorem Cz.grow {w V V' : World} {gg N : Nat} {xs : Nat → List Int × List Int} {o1 : Option Addr} {n1 c1 : Nat} {sh1 : List Int} {o2 co : Option Addr} {n2 c2 n3 c3 : Nat} {zs ys : List Int} (h : Cz w V gg N xs o1 n1 c1 sh1 o2 n2 c2 zs)
    (f : Ft 2 V' w.heap.size co n3 c3 ys) (hg : V.grownBy V' (Value.slice o2 n2 c2).ownBlock) : Cz w (V'.setCell ⟨w.heap.size + 1 + 1 + 1, 1, none⟩ (.slice co n3 c3)) gg N xs o1 n1 c1 sh1 co n3 c3 ys := by
  have ne : ∀ b cs t, V.heap[b]? = some (.cells cs t (0, 0)) → 2 ≠ t → some b ≠ (Value.slice o2 n2 c2).ownBlock := fun b cs t hb ht e => by
    obtain ⟨off, e1⟩ := h.f2.obk e.symm
    exact h.f2.nebox hb ht b off e1 rfl
  have lo : ∀ b, b < w.heap.size → some b ≠ (Value.slice o2 n2 c2).ownBlock := fun b hb e => by
    obtain ⟨off, e1⟩ := h.f2.obk e.symm
    have := (h.f2.at b off e1).1; omega
  have lt : ∀ {b cs t}, V.heap[b]? = some (.cells cs t (0, 0)) → b < V.heap.size := fun hb => (Array.getElem?_eq_some_iff.1 hb).1
  have bV : Below w.heap.size w V' := ⟨hg.os.trans h.bel.os, hg.tape.trans h.bel.tape, hg.output.trans h.bel.output, Nat.le_trans h.bel.size hg.size, fun k hk => (hg.block k (Nat.lt_of_lt_of_le hk h.bel.size) (lo k hk)).trans (h.bel.block k hk)⟩
  have r' := (hg.block _ (lt h.res) (ne _ _ _ h.res ty_ne2)).trans h.res
  have o' := (hg.block _ (lt h.out) (ne _ _ _ h.out ty_ne2)).trans h.out
  obtain ⟨cur, i1, i2, i3⟩ := h.itm.row
  have i' := hg.block gg (lt i1) (ne _ _ _ i1 ty_ne2)
  have F1 : Ft 3 V' w.heap.size o1 n1 c1 sh1 := h.f1.keep1 hg (fun b off e e2 => by
    obtain ⟨off2, e3⟩ := h.f2.obk e2.symm
    rcases h.f2.own.2 with ⟨e4, h0⟩ | ⟨g', c', cur', e4, hB2, hg2, r⟩
    · injection e4 with e5; rw [e5] at e3; cases e3
    · injection e4 with e5; rw [e5] at e3; cases e3
      exact h.f1.nebox hg2 ty_ne3 _ _ e rfl)
  have k : V'.grownBy (V'.setCell ⟨w.heap.size + 1 + 1 + 1, 1, none⟩ (.slice co n3 c3)) (some (w.heap.size + 1 + 1 + 1)) := set1 _ _ _ _
  have s0 := lt h.out
  have s1 := hg.size
  have gt := h.gt
  refine ⟨bV.setCell (p := ⟨w.heap.size + 1 + 1 + 1, 1, none⟩) (show w.heap.size ≤ w.heap.size + 1 + 1 + 1 by omega) _, (k.block _ (by omega) (fun e => by injection e with e; omega)).trans r', ?_, F1.keep1 k (F1.nebox o' ty_ne1), f.keep1 k (f.nebox o' ty_ne2), h.itm.keep (bV.setCell (p := ⟨w.heap.size + 1 + 1 + 1, 1, none⟩) (show w.heap.size ≤ w.heap.size + 1 + 1 + 1 by omega) _) ((k.block gg (by have := lt i1; omega) (fun e => by injection e with e; omega)).trans i'), h.gt⟩
  have := heap_setCell_same V' (w.heap.size + 1 + 1 + 1) 1 _ 30 (.slice co n3 c3) o'
  simpa using this
/-- The atoms of the items at the first k of some places. -/
def chA (xs : Nat → List Int × List Int) (ps : List Int) (k : Nat) : List Int := ((ps.take k).map (fun p => (xs p.toNat).2)).flatten
theorem chA_succ {xs : Nat → List Int × List Int} {ps : List Int} {k : Nat} (h : k < ps.length) : chA xs ps (k + 1) = chA xs ps k ++ (xs (nth ps k).toNat).2 := by
  unfold chA
  rw [take_nth h, List.map_append, List.flatten_append]
  simp

end Go.Proofs.YtmepcenbaohcoaaGreat
