
/- An append to a row of one's own, as a step; a region that draws, whose last operations write what others loaded ahead of them. -/

import Derived.Test.YtlajainnpnbcaaaYI

import Derived.Maps.AppendAt

import Derived.OrdersHeld

import Derived.RegionTactic

namespace Go.Proofs.Ytlajainnpnbcaaa

open Go.RowKit

set_option linter.unusedVariables false

/-- An append to a list of one's own: what else becomes of the world, and where the list then lies. -/
theorem run_joinW {s e : TypeId} (ty : Ty s e) {w : World} (tt : TypeId) (B : Nat) (ao bo : Option Addr) (n cap m cap' : Nat) (zs ys : List Int) (h : Ft e w B ao n cap zs) (g : Rd w bo m ys) (gs : Sl bo m cap') (hr : (n + m) * 8 ≤ 140737488351232) (hB : B ≤ w.heap.size) :
    ∃ co c w', (Builtin.append_ #[s, s] tt #[.slice ao n cap, .slice bo m cap']).run Try.prog w = .ok (.slice co (n + m) c) w' ∧ Ft e w' B co (n + m) c (zs ++ ys) ∧ w.grownBy w' (Value.slice ao n cap).ownBlock ∧ ((Value.slice co (n + m) c).ownBlock = (Value.slice ao n cap).ownBlock ∨ (Value.slice co (n + m) c).ownBlock = some w.heap.size) := by
  obtain ⟨i0, hi, hz0, hz1, hz2⟩ := info_parts ty.info
  have hl := h.rd.len
  have gl := g.len
  have hnum : ∀ k, k < n + m → -9223372036854775808 ≤ nth (zs ++ ys) k ∧ nth (zs ++ ys) k ≤ 9223372036854775807 := by
    intro k hk
    by_cases c : k < n
    · have e : nth (zs ++ ys) k = nth zs k := by unfold nth; simp [List.getElem?_append, hl, c]
      rw [e]; exact h.rd.num k c
    · have e : nth (zs ++ ys) k = nth ys (k - n) := by unfold nth; simp [List.getElem?_append, hl, c]
      rw [e]; exact g.num _ (by omega)
  have fin : ∀ v w', w'.ownsRow B e 1 v (n + m) (zs.map (Value.int .i64) ++ ys.map (Value.int .i64)) → ∃ co c, v = .slice co (n + m) c ∧ Ft e w' B co (n + m) c (zs ++ ys) := fun v w' ho =>
    Ft.mk' (by simp [hl, gl]) hr hnum (by rw [List.map_append]; exact ho)
  cases bo with
  | none =>
    obtain ⟨rfl, rfl⟩ := gs.nil rfl
    have hy : ys = [] := List.eq_nil_of_length_eq_zero gl
    subst hy
    have hrun := run_append_owned_none (P := Try.prog) (w := w) B s tt e i0 1 ty.und hi _ n _ h.own
    refine ⟨ao, cap, w, hrun, ?_, World.grownBy.refl _ _, .inl ?_⟩
    · rw [List.append_nil]; exact h
    · cases ao <;> rfl
  | some a =>
    have hnews : ∀ j u, (ys.map (Value.int .i64))[j]? = some u → w.cell? (a.add j) = some u := by
      intro j u hu
      have hj : j < m := by
        have := (List.getElem?_eq_some_iff.1 hu).1
        simpa [gl] using this
      obtain ⟨b, off, e, _, hc⟩ := g.cells (by omega)
      cases e
      exact Rd.news gl hc j u hu
    obtain ⟨v', w', hrun, hown, hgrow, _, hat⟩ := run_append_own_at (P := Try.prog) w B s tt e i0 (.int .i64 0) 1 8 ty.und hi hz0 hz1 hz2 rfl (by decide) _ n _ h.own a m cap' (ys.map (Value.int .i64)) (by rw [List.length_map, gl, Nat.mul_one]) hnews (ints_one ys) (by unfold maxLen; omega) (by omega) hB
    obtain ⟨co, c, rfl, hf⟩ := fin _ _ hown
    exact ⟨co, c, w', hrun, hf, hgrow, hat⟩

/-- The same as one step of a region that draws its order. -/
theorem step_joinW {s e : TypeId} (ty : Ty s e) {ops : Array Oper} {o : Oper} {a : Act} {w : World} {K : Act → World → Prop} {Q : Exit → Act → World → Prop} {E : Prop}
    (hg : o.guard = none) (p x : Operand) (ho : o.op = .call { callee := .builtin .append, args := #[p, x], argTypes := #[s, s] }) (B : Nat) (N : Nat) (ao bo : Option Addr) (n cap m cap' : Nat) (zs ys : List Int) (hN : n + m = N)
    (hs : a.eval p = .slice ao n cap) (hx : a.eval x = .slice bo m cap') (h : Ft e w B ao n cap zs) (g : Rd w bo m ys) (gs : Sl bo m cap') (hr : (n + m) * 8 ≤ 140737488351232) (hB : B ≤ w.heap.size)
    (hK : ∀ co c w', Ft e w' B co N c (zs ++ ys) → w.grownBy w' (Value.slice ao n cap).ownBlock → ((Value.slice co N c).ownBlock = (Value.slice ao n cap).ownBlock ∨ (Value.slice co N c).ownBlock = some w.heap.size) → K (a.put o.dst (.slice co N c)) w') :
    if Region.wanted o (yielded ops a.tmps) = true then Oper.wp Try.prog o a w K Q else E := by
  subst hN
  have hw : Region.wanted o (yielded ops a.tmps) = true := by simp [Region.wanted, hg]
  rw [if_pos hw]
  obtain ⟨co, c, w', hrun, hf, h1, h2⟩ := run_joinW ty o.type B ao bo n cap m cap' zs ys h g gs hr hB
  unfold Oper.wp
  simp [execOp, ho, resolve, invoke, builtin, hs, hx, hrun, Result.andThen]
  exact hK _ _ _ hf h1 h2

section

variable {P : Program} {ops : Array Oper} {Q : Exit → Act → World → Prop} {md : Region.Mode} {S : World → Prop} {A : Nat → Bool}

/-- Whatever order is picked from here on, and S holds behind those operations that A names. -/
def wpAnyR (P : Program) (md : Region.Mode) (ops : Array Oper) (Q : Exit → Act → World → Prop) (S : World → Prop) (A : Nat → Bool) : Nat → Array Bool → Act → World → Prop
  | 0, listed, a, w => Region.ready md ops listed = [] ∧ Q .normal a w
  | fuel + 1, listed, a, w =>
    (Region.ready md ops listed = [] → Q .normal a w) ∧
    ∀ i ∈ Region.ready md ops listed, wpOp P ops Q i (fun a' w' => (A i = true → S w') ∧ wpAnyR P md ops Q S A fuel (listed.setIfInBounds i true) a' w') a w
theorem wpAny_of_R : ∀ (fuel : Nat) (listed : Array Bool) (a : Act) (w : World), wpAnyR P md ops Q S A fuel listed a w → wpAny P md ops Q fuel listed a w
  | 0, _, _, _, h => h
  | fuel + 1, _, _, _, h => ⟨h.1, fun i hi => wpOp_mono (fun a' w' h' => wpAny_of_R fuel _ a' w' h'.2) (h.2 i hi)⟩
theorem wpAnyR_first {i : Nat} {oi : Oper} {v : Value} (hi : ops[i]? = some oi) (hsel : ∀ (j : Nat) (o : Oper) cs b, ops[j]? = some o → o.op ≠ .select cs b)
    (hQ : ∀ c a w, Q (.panic c) (a.put oi.dst v) w → Q (.panic c) a w) (hA : ∀ j oj, ops[j]? = some oj → A j = false → ∃ e ∈ oj.after, Region.binds md e = true ∧ e.on = i) :
    ∀ (fuel : Nat) (listed : Array Bool) (a : Act) (w : World),
      (∀ j oj, ops[j]? = some oj → j ≠ i → listed.getD j true = false → (∀ e ∈ oj.after, Region.binds md e = true → e.on ≠ i) → oi.apart ops oj = true) →
      i ∈ Region.ready md ops listed → YieldsIf P ops S oi v a → S w →
      wpAnyR P md ops Q S A fuel (listed.setIfInBounds i true) (a.put oi.dst v) w → wpAnyR P md ops Q S A (fuel + 1) listed a w := by
  intro fuel
  induction fuel with
  | zero =>
    intro listed a w _ hr hy hS H
    refine ⟨fun h => (by rw [h] at hr; cases hr), fun j hj => ?_⟩
    by_cases hji : j = i
    · subst hji; exact hy.wpOp hi hS ⟨fun _ => hS, H⟩
    · have := ready_mono hj hji
      rw [H.1] at this
      cases this
  | succ fuel ih =>
    intro listed a w hfree hr hy hS H
    refine ⟨fun h => (by rw [h] at hr; cases hr), fun j hj => ?_⟩
    by_cases hji : j = i
    · subst hji; exact hy.wpOp hi hS ⟨fun _ => hS, H⟩
    · have h1 := H.2 j (ready_mono hj hji)
      obtain ⟨hjun, oj, hoj, hall⟩ := mem_ready.1 hj
      have hnot : ∀ e ∈ oj.after, Region.binds md e = true → e.on ≠ i := fun e he hb heq => by
        have h1 := hall e he hb
        have h0 := (mem_ready.1 hr).1
        rw [heq] at h1
        rcases Nat.lt_or_ge i listed.size with h' | h'
        · simp [h'] at h0 h1; rw [h0] at h1; cases h1
        · simp [Array.getElem?_eq_none h'] at h1
      have hAj : A j = true := by
        cases hc : A j with
        | true => rfl
        | false =>
          obtain ⟨e, he, hb, ho⟩ := hA j oj hoj hc
          exact absurd ho (hnot e he hb)
      have h2 := wpOp_putIf hoj (hfree j oj hoj hji hjun hnot) (fun cs b => hsel i oi cs b hi) (fun cs b => hsel j oj cs b hoj) hQ hy h1
      have hfree' : ∀ k ok, ops[k]? = some ok → k ≠ i → (listed.setIfInBounds j true).getD k true = false →
          (∀ e ∈ ok.after, Region.binds md e = true → e.on ≠ i) → oi.apart ops ok = true := fun k ok hk hki hun hno => by
        refine hfree k ok hk hki ?_ hno
        by_cases hjk : j = k
        · subst hjk; exact hjun
        · rw [getD_set_ne true hjk] at hun; exact hun
      refine wpOp_mono (fun a' w' h3 => ⟨h3.2.1, ih (listed.setIfInBounds j true) a' w' hfree' (ready_mono hr (Ne.symm hji)) h3.1 (h3.2.1 hAj) ?_⟩) h2
      rw [Array.setIfInBounds_comm _ _ hji]
      exact h3.2.2
/-- Do all that A does not name wait for i? -/
def waitsAll (md : Region.Mode) (ops : Array Oper) (A : Nat → Bool) (i : Nat) : Bool := (List.range ops.size).all fun j => A j || (match ops[j]? with | some oj => oj.after.any fun e => Region.binds md e && e.on == i | none => true)
theorem waitsAll_spec {i : Nat} (h : waitsAll md ops A i = true) : ∀ j oj, ops[j]? = some oj → A j = false → ∃ e ∈ oj.after, Region.binds md e = true ∧ e.on = i := fun j oj hj hA => by
  unfold waitsAll at h
  have := List.all_eq_true.1 h j (List.mem_range.2 (Array.getElem?_eq_some_iff.1 hj).1)
  rw [hA, hj] at this
  simp only [Bool.false_or] at this
  obtain ⟨n, hn, hx⟩ := Array.any_eq_true.1 this
  rw [Bool.and_eq_true] at hx
  exact ⟨_, Array.getElem_mem hn, hx.1, by simpa using hx.2⟩
theorem wpAnyR_take {i : Nat} {oi : Oper} {v : Value} {fuel : Nat} {listed : Array Bool} {a : Act} {w : World} (hi : ops[i]? = some oi)
    (hs : Region.noSelect ops = true) (hf : Region.free md ops listed i = true) (hr : (Region.ready md ops listed).contains i = true) (hA : waitsAll md ops A i = true)
    (hQ : ∀ c a w, Q (.panic c) (a.put oi.dst v) w → Q (.panic c) a w) (hy : YieldsIf P ops S oi v a) (hS : S w)
    (h : wpAnyR P md ops Q S A fuel (listed.setIfInBounds i true) (a.put oi.dst v) w) : wpAnyR P md ops Q S A (fuel + 1) listed a w :=
  wpAnyR_first hi (Region.noSelect_spec hs) hQ (waitsAll_spec hA) fuel listed a w (Region.free_spec hi hf) (by simpa using hr) hy hS h
theorem wpAnyR_one {i : Nat} {o : Oper} {fuel : Nat} {listed : Array Bool} {a : Act} {w : World} (hr : Region.ready md ops listed = [i]) (ho : ops[i]? = some o)
    (h : ∀ K' : Act → World → Prop, (∀ a w, ((A i = true → S w) ∧ wpAnyR P md ops Q S A fuel (listed.setIfInBounds i true) a w) → K' a w) → if Region.wanted o (yielded ops a.tmps) = true then Oper.wp P o a w K' Q else K' (a.put o.dst undef) w) : wpAnyR P md ops Q S A (fuel + 1) listed a w :=
  ⟨fun h0 => (by rw [hr] at h0; cases h0), fun j hj => by
    rw [hr, List.mem_singleton] at hj
    subst hj
    exact wpOp_step ho h⟩
theorem wpAnyR_done {listed : Array Bool} {a : Act} {w : World} (hr : Region.ready md ops listed = []) (h : Q .normal a w) : ∀ fuel, wpAnyR P md ops Q S A fuel listed a w
  | 0 => ⟨hr, h⟩
  | _ + 1 => ⟨fun _ => h, by rw [hr]; simp⟩
theorem wp_region_R {id : Nat} {a : Act} {w : World} (S : World → Prop) (A : Nat → Bool) (hm : P.follows .mixedOrders = true)
    (h : wpAnyR P .any ops Q S A ops.size (Array.replicate ops.size false) a w.drew) : (Code.region id ops true).wp P Q a w :=
  wp_region_any hm (wpAny_of_R _ _ _ _ h)
end

/-- A row of numbers lies in no box. -/
theorem Ft.nebox {e t : TypeId} {V : World} {B : Nat} {o : Option Addr} {n c b : Nat} {zs : List Int} {cs : Array Value} (h : Ft e V B o n c zs) (hb : V.heap[b]? = some (.cells cs t (0, 0))) (ht : e ≠ t) : ∀ b' off, o = some ⟨b', off, none⟩ → some b' ≠ some b := by
  intro b' off e1 e2
  injection e2 with e2
  subst e2
  rcases h.own.2 with ⟨e3, h0⟩ | ⟨g', c', cur, e3, hB2, hg, r⟩
  · injection e3 with e4 e5 e6
    rw [e4] at e1; cases e1
  · injection e3 with e4 e5 e6
    rw [e4] at e1; cases e1
    rw [hg] at hb
    injection hb with hb
    injection hb with _ hb2
    exact ht hb2
theorem Ft.obk {e : TypeId} {V : World} {B : Nat} {o : Option Addr} {n c : Nat} {zs : List Int} (h : Ft e V B o n c zs) {b : Nat} (hb : (Value.slice o n c).ownBlock = some b) : ∃ off, o = some ⟨b, off, none⟩ := by
  rcases h.own.2 with ⟨e3, h0⟩ | ⟨g', c', cur, e3, hB2, hg, r⟩
  · injection e3 with e4 e5 e6
    subst e4 e5 e6
    simp [Value.ownBlock] at hb
  · injection e3 with e4 e5 e6
    subst e4
    simp [Value.ownBlock] at hb
    subst hb
    exact ⟨_, rfl⟩
end Go.Proofs.Ytlajainnpnbcaaa
