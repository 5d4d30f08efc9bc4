
/- From an argument's reading to its list, or to its array. -/

import Derived.Test.YtdeglhifemmknaaRows

import Derived.Test.YtdeglhifemmknaaA7

import Derived.Test.YtdeglhifemmknaaMath2

import Derived.ProofKit

import Derived.OpenShut

import Derived.ChangeOld

import Derived.Below

import Derived.Deep.Slices

import Derived.SizedLaws

namespace Go.Proofs.Ytdeglhifemmknaa

open Go.ChangeShapes Go.WideShapes Go.ChangeAt Go.RowKit

set_option linter.unusedVariables false

theorem own : ownKnob Try.prog.godebug = none := by kernel_rfl
theorem laidOut : laidOutB Try.prog = true := by kernel_rfl

/-- What is asked of numbers that are read. -/
structure Tz (s e : TypeId) : Prop where
  ty : Ty s e
  num : Try.prog.underlying e = some (.int .i64)
  one : Try.prog.cellsOf e = 1
  und : Try.checked.prog.underlying s = some (.slice e)
  bytes : Try.checked.prog.bytesOf e = 8
theorem tzI : Tz 28 3 := ⟨tyI, by kernel_rfl, by kernel_rfl, by kernel_rfl, by kernel_rfl⟩
theorem cells_one {W : World} {a : Addr} {cs : List Value} (h : W.cells? 0 a 1 = some cs) : ∃ v, cs = [v] ∧ W.cell? a = some v := by
  obtain ⟨_, hl, hg⟩ := World.cells?_some h
  match cs, hl with
  | [c], _ =>
    have := hg 0 (by omega)
    have e : a.add 0 = a := by cases a; rfl
    rw [e] at this
    exact ⟨c, rfl, by simpa using this⟩
theorem addr_none {W : World} {a : Addr} {v : Value} (h : W.cell? a = some v) : ∃ b off, a = ⟨b, off, none⟩ := by
  obtain ⟨b, off, spot⟩ := a
  have := World.cell?_spot h
  simp at this
  subst this
  exact ⟨b, off, rfl⟩
theorem nth_made (f : Nat → Int) (N k : Nat) (h : k < N) : nth ((List.range N).map f) k = f k := by simp [nth, h]

/-- A slice of numbers that was read is a list. -/
theorem open_nums {s e : TypeId} (tz : Tz s e) {H : Type} {enc : TypeId × Value → H} {W : World} {fuel : Nat} {c : Value} {x : DataW H × List MemPlace} (h : DataW.trod enc Try.prog W 0 (fun _ => true) true fuel s [c] = some x)
    (hz : ∀ n ∈ x.1.weights Try.checked.prog s, n ≤ 140737488351232) : ∃ ao n cap zs, c = .slice ao n cap ∧ Rd W ao n zs ∧ Sl ao n cap := by
  rcases Go.Deep.open_slice tz.ty.und h with ⟨hcs, _⟩ | ⟨a', len, cap', m, n, D, Pl, hcs, _, hl, hm, hmm, hx, hel⟩
  · cases hcs
    exact ⟨_, _, _, [], rfl, Rd.nil _, fun _ => ⟨rfl, rfl⟩, by omega, by omega⟩
  · cases hcs
    simp at hmm
    subst hmm
    have hroom : m * 8 ≤ 140737488351232 := by
      have := hz (m * 8) (by rw [hx]; simp only [DataW.weights, tz.und, List.mem_cons, tz.bytes]; left; simp; omega)
      omega
    unfold maxLen at hm
    have hq : ∀ i, i < len → ∃ z : Int, W.cell? (a'.add i) = some (.int .i64 z) ∧ -9223372036854775808 ≤ z ∧ z ≤ 9223372036854775807 := by
      intro i hi
      obtain ⟨cs', h1, h2⟩ := hel i (by omega)
      rw [tz.one, Nat.mul_one] at h1
      obtain ⟨v, rfl, hv⟩ := cells_one h1
      obtain ⟨z, e, _, wf⟩ := DataW.trod_int tz.num h2
      simp at e
      subst e
      exact ⟨z, hv, bounds_i64 wf⟩
    obtain ⟨f, hf⟩ := Go.Deep.choose_lt hq
    refine ⟨_, _, _, (List.range len).map f, rfl, ⟨by simp, by omega, fun k hk => by rw [nth_made _ _ _ hk]; exact (hf k hk).2, fun h0 => ?_⟩, fun e => (by cases e), hl, by omega⟩
    have h00 := (hf 0 h0).1
    have e0 : a'.add 0 = a' := by cases a'; rfl
    rw [e0] at h00
    obtain ⟨b, off, rfl⟩ := addr_none h00
    have hb := World.block_lt_of_cell? W _ h00
    exact ⟨b, off, rfl, hb, fun k hk => by rw [nth_made _ _ _ hk]; have := (hf k hk).1; rwa [add_at] at this⟩

theorem cellsI : Try.prog.cellsOf 28 = 1 := by kernel_rfl
theorem two_of_len {cs : List Value} (h : cs.length = 2) : ∃ c0 c1, cs = [c0, c1] := by
  match cs, h with
  | [c0, c1], _ => exact ⟨c0, c1, rfl⟩
theorem arr_of_cells {cs : Array Value} {c0 c1 : Value} (h : (Value.agg cs).cells.toList = [c0, c1]) : cs = #[c0, c1] := by
  have h' : cs.toList = [c0, c1] := h
  cases cs; simp_all

/-- The weights of an argument. -/
theorem weights_at {H : Type} {ts : List TypeId} {ds : List (DataW H)} (h : (DataW.weightsEach Try.checked.prog ts ds).all (· ≤ reachBytes) = true) {j : Nat} {t : TypeId} {d : DataW H} (ht : ts[j]? = some t) (hd : ds[j]? = some d) : ∀ n ∈ d.weights Try.checked.prog t, n ≤ 140737488351232 := by
  intro n hn
  have h2 : decide (n ≤ reachBytes) = true := List.all_eq_true.1 h _ (DataW.weights_mem_each ht hd n hn)
  have h3 := of_decide_eq_true h2
  unfold reachBytes at h3
  exact h3
end Go.Proofs.Ytdeglhifemmknaa
