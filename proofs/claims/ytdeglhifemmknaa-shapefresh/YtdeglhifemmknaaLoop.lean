
/- Ranging over a function, told by what its loop's record is between two rounds. -/

import Derived.Test.YtdeglhifemmknaaCover

import Derived.RangeFuncNested

import Derived.RangeFuncCalls

import Derived.RangeFuncLeaves

import Derived.Shelf.Abstract

import Derived.Shelf.RegionOpen

import Derived.WalkKit

import Derived.OwnWalkIn

import Derived.TacticsInMore

import Derived.LoopNIn

import Derived.LoopIn

namespace Go.Proofs.Ytdeglhifemmknaa

open Go.RowKit Go.Shelf

set_option linter.unusedVariables false

/-- What stays of a loop while it goes round. -/
structure Lp where
  fn : FuncId
  tmps : Array Value
  ps : Array Tmp
  assign : Code
  body : Code
  own : Nat

def Lp.is (L : Lp) (st : LoopState) (pe : Option Code) (l : Nat) (W : World) : Prop :=
  W.heap[l]? = some (.loop { state := st, pending := pe, fn := L.fn, tmps := L.tmps, params := L.ps, assign := L.assign, body := L.body, defers := L.own }) ∧ W.heap[L.own]? = some (.deferred (some [])) ∧ l ≠ L.own

theorem Lp.is.kept {L : Lp} {st : LoopState} {pe : Option Code} {l : Nat} {W W' : World} {row : Option Nat} (h : L.is st pe l W) (hg : W.grownBy W' row) (h1 : some l ≠ row) (h2 : some L.own ≠ row) : L.is st pe l W' :=
  ⟨(hg.block l (Array.getElem?_eq_some_iff.1 h.1).1 h1).trans h.1, (hg.block L.own (Array.getElem?_eq_some_iff.1 h.2.1).1 h2).trans h.2.1, h.2.2⟩
theorem Lp.is.below {L : Lp} {st : LoopState} {pe : Option Code} {l B : Nat} {W W' : World} (h : L.is st pe l W) (hg : Below B W W') (h1 : W.heap.size ≤ B) : L.is st pe l W' :=
  ⟨(hg.block l (Nat.lt_of_lt_of_le (Array.getElem?_eq_some_iff.1 h.1).1 h1)).trans h.1, (hg.block L.own (Nat.lt_of_lt_of_le (Array.getElem?_eq_some_iff.1 h.2.1).1 h1)).trans h.2.1, h.2.2⟩

def Lp.turn (L : Lp) (st : LoopState) (pe : Option Code) (l : Nat) (W : World) : World :=
  W.putObj l (.loop { state := st, pending := pe, fn := L.fn, tmps := L.tmps, params := L.ps, assign := L.assign, body := L.body, defers := L.own })
theorem Lp.is.turned {L : Lp} {st st' : LoopState} {pe pe' : Option Code} {l : Nat} {W : World} (h : L.is st pe l W) : L.is st' pe' l (L.turn st' pe' l W) :=
  ⟨World.putObj_heap_same (Array.getElem?_eq_some_iff.1 h.1).1, (World.putObj_heap_other (Ne.symm h.2.2)).trans h.2.1, h.2.2⟩
theorem Lp.turn_grown (L : Lp) (st : LoopState) (pe : Option Code) (l : Nat) (W : World) : W.grownBy (L.turn st pe l W) (some l) := grownBy_putObj' W l _

/-- How a round may be left: it goes on, or it leaves by a jump. -/
def rPost (L : Lp) (l : Nat) (K : World → Prop) (X : Code → World → Prop) : Exit → Act → World → Prop
  | .normal, _, W => L.is .busy none l W ∧ ∀ W', W.grownBy W' (some l) → K W'
  | .ret, _, W => L.is .busy none l W ∧ ∀ W', W.grownBy W' (some l) → X .ret W'
  | .exit id, _, W => L.is .busy none l W ∧ ∀ W', W.grownBy W' (some l) → X (.exit id) W'
  | .goto t, _, W => L.is .busy none l W ∧ ∀ W', W.grownBy W' (some l) → X (.goto t) W'
  | .panic _, _, _ => False
  | .outgrown, _, _ => False

/-- One round. -/
theorem yield_round {L : Lp} {l m : Nat} {P : Program} {args : Array Value} {W : World} {K : World → Prop} {X : Code → World → Prop} {tmps : Array Value} {ps : Array Tmp} {assign body : Code}
    (eT : L.tmps = tmps) (eP : L.ps = ps) (eA : L.assign = assign) (eB : L.body = body) (hr : L.is .ready none l W) (hs : args.size = ps.size)
    (h : assign.wpIn (Fence.wide.inRound l) m P (Exit.then (fun a1 W1 => L.is .ready none l W1 ∧ ∀ W2, L.is .busy none l W2 → W1.grownBy W2 (some l) → body.wpIn (Fence.wide.inRound l) m P (rPost L l K X) a1 W2) (fun _ _ _ => False))
      { tmps := (ps.zip args).foldl (fun t (p, v) => t.setIfInBounds p v) tmps, defers := [] } W) :
    YieldAt Fence.wide m P l args W fun e W' => (e = .returned (.bool true) ∧ L.is .ready none l W' ∧ K W') ∨ (e = .returned (.bool false) ∧ ∃ c, L.is .done (some c) l W' ∧ X c W') := by
  subst eT eP eA eB
  refine ⟨L.fn, _, L.assign, L.body, run_yield (P := P) (args := args) hr.1 hs, roundIn_of_wpIn trivial (wpIn_mono h ?_)⟩
  rintro e a1 W1 hp
  cases e with
  | normal =>
    obtain ⟨hr1, hb⟩ := hp
    refine ⟨_, run_beginRound hr1.1 rfl, wpIn_mono (hb _ hr1.turned (Lp.turn_grown L .busy none l W1)) ?_⟩
    rintro e a2 W2 hq
    cases e with
    | normal => exact ⟨_, _, run_endRound (P := P) none hq.1.1, .inl ⟨rfl, hq.1.turned, hq.2 _ (Lp.turn_grown L .ready none l W2)⟩⟩
    | ret => exact ⟨_, _, run_endRound (P := P) (some .ret) hq.1.1, .inr ⟨rfl, _, hq.1.turned, hq.2 _ (Lp.turn_grown L .done (some .ret) l W2)⟩⟩
    | exit id => exact ⟨_, _, run_endRound (P := P) (some (.exit id)) hq.1.1, .inr ⟨rfl, _, hq.1.turned, hq.2 _ (Lp.turn_grown L .done (some (.exit id)) l W2)⟩⟩
    | goto t => exact ⟨_, _, run_endRound (P := P) (some (.goto t)) hq.1.1, .inr ⟨rfl, _, hq.1.turned, hq.2 _ (Lp.turn_grown L .done (some (.goto t)) l W2)⟩⟩
    | panic c => exact hq.elim
    | outgrown => exact hq.elim
  | ret => exact hp.elim
  | exit id => exact hp.elim
  | goto t => exact hp.elim
  | panic c => exact hp.elim
  | outgrown => exact hp.elim

/-- The statement: the function is called once, its rounds are met where it calls what it was handed. -/
theorem range_over {n : Nat} {P : Program} {g : Operand} {ps : Array Tmp} {assign body : Code} {Q : Exit → Act → World → Prop} {a : Act} {w : World} {gf : Nat} {lb : Array Value}
    (hg : a.eval g = .func (.func gf) #[] lb) (eg : ∀ args w, (callFunc gf args).run P w = .ok (.enter gf args) w) (E : World → Prop) (X : Code → World → Prop)
    (hit : ∀ (L : Lp) (l : Nat) (W : World), L.tmps = a.tmps → L.ps = ps → L.assign = assign → L.body = body → L.own = w.heap.size → l = w.heap.size + 1 → L.is .ready none l W → Below w.heap.size w W → W.heap.size = w.heap.size + 2 →
      CallsIn Fence.wide (n - 1) P gf (#[.func (.yield l) #[] #[]] ++ lb) W fun e W' => (∃ v, e = .returned v) ∧ ((L.is .ready none l W' ∧ ∀ W'', W'.grownBy W'' (some l) → E W'') ∨ ∃ c, L.is .done (some c) l W' ∧ ∀ W'', W'.grownBy W'' (some l) → X c W''))
    (hdone : ∀ W, W.heap[w.heap.size]? = some (.deferred (some [])) → E W → Q .normal { a with defers := { target := .collected w.heap.size, args := #[] } :: a.defers } W)
    (hstop : ∀ c W, W.heap[w.heap.size]? = some (.deferred (some [])) → X c W → c.wpIn Fence.wide n P Q { a with defers := { target := .collected w.heap.size, args := #[] } :: a.defers } W) :
    (Code.rangeFunc g ps assign body).wpIn Fence.wide n P Q a w := by
  refine wpIn_rangeFunc fun fn hfn => ?_
  have h0 : ((w.alloc (.deferred (some []))).alloc (.loop { state := .ready, pending := none, fn := fn, tmps := a.tmps, params := ps, assign := assign, body := body, defers := w.heap.size })).heap.size = w.heap.size + 2 := by simp
  obtain ⟨W, hW⟩ : ∃ W, (w.alloc (.deferred (some []))).alloc (.loop { state := .ready, pending := none, fn := fn, tmps := a.tmps, params := ps, assign := assign, body := body, defers := w.heap.size }) = W := ⟨_, rfl⟩
  have hr : (Lp.mk fn a.tmps ps assign body w.heap.size).is .ready none (w.heap.size + 1) W := by
    rw [← hW]
    refine ⟨?_, ?_, by simp⟩
    · have := World.alloc_heap_new (w.alloc (.deferred (some []))) (.loop { state := .ready, pending := none, fn := fn, tmps := a.tmps, params := ps, assign := assign, body := body, defers := w.heap.size })
      rwa [World.size_alloc] at this
    · exact (Below.heap_alloc _ _ _ (by simp)).trans (World.alloc_heap_new w _)
  have hb : Below w.heap.size w W := by rw [← hW]; exact ((Below.refl _ w).alloc (Nat.le_refl _) _).alloc (by simp) _
  rw [hW] at h0
  refine ⟨w.heap.size + 1, [{ target := .collected w.heap.size, args := #[] }], W, { target := .fn (.func gf) lb, args := #[.func (.yield (w.heap.size + 1)) #[] #[]] }, W, gf, #[.func (.yield (w.heap.size + 1)) #[] #[]] ++ lb, W, ?_, ?_, ?_, ?_, ?_, ?_⟩
  · rw [← hW]; exact run_enterLoop_outer _ _ _ _ _
  · simp only [resolve, hg]; simp [go_sem]
  · exact fun _ _ => trivial
  · simp [invoke, go_sem, eg]
  · intro h; cases h
  · refine (hit _ _ W rfl rfl rfl rfl rfl rfl hr hb h0).mono ?_
    rintro e W2 ⟨⟨v, rfl⟩, ⟨h1, h2⟩ | ⟨c, h1, h2⟩⟩
    · exact ⟨none, _, run_endLoop (P := P) h1.1 (by simp), hdone _ ((World.putObj_heap_other (Ne.symm h1.2.2)).trans h1.2.1) (h2 _ (grownBy_putObj' W2 _ _))⟩
    · exact ⟨some c, _, run_endLoop (P := P) h1.1 (by simp), hstop c _ ((World.putObj_heap_other (Ne.symm h1.2.2)).trans h1.2.1) (h2 _ (grownBy_putObj' W2 _ _))⟩

theorem Rd.kept {w w' : World} {row : Option Nat} {ao : Option Addr} {n : Nat} {zs : List Int} (h : Rd w ao n zs) (hg : w.grownBy w' row) (hne : ∀ b off, ao = some ⟨b, off, none⟩ → some b ≠ row) : Rd w' ao n zs := by
  refine ⟨h.len, h.room, h.num, fun h0 => ?_⟩
  obtain ⟨b, off, e, hl, hc⟩ := h.cells h0
  exact ⟨b, off, e, Nat.lt_of_lt_of_le hl hg.size, fun k hk => hg.cell (hc k hk) (hne b off e)⟩

theorem Fr.kept {w w' : World} {B : Nat} {row : Option Nat} {ao : Option Addr} {n cap : Nat} {zs : List Int} (h : Fr w B ao n cap zs) (hg : w.grownBy w' row) (hne : ∀ b off, ao = some ⟨b, off, none⟩ → some b ≠ row) : Fr w' B ao n cap zs := by
  refine ⟨h.rd.kept hg hne, h.own.1, ?_⟩
  rcases h.own.2 with h0 | ⟨g, c, cur, e, hb, hgg, r⟩
  · exact .inl h0
  · exact .inr ⟨g, c, cur, e, hb, by rw [hg.block g (Array.getElem?_eq_some_iff.1 hgg).1 (by cases e; exact hne g 0 rfl)]; exact hgg, r⟩
end Go.Proofs.Ytdeglhifemmknaa
