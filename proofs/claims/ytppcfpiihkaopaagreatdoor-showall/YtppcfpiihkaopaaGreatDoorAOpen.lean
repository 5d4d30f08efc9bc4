
/- From an argument's reading to its list, or to its array. -/

import Derived.Test.YtppcfpiihkaopaaGreatDoorRows

import Derived.Test.YtppcfpiihkaopaaGreatDoorA10

import Derived.ProofKit

import Derived.OpenShut

import Derived.ChangeOld

import Derived.Below

import Derived.Deep.Slices

import Derived.SizedLaws

namespace Go.Proofs.YtppcfpiihkaopaaGreatDoor

open Go.ChangeShapes Go.WideShapes Go.ChangeAt Go.RowKit

set_option linter.unusedVariables false

theorem own : ownKnob Tryz.prog.godebug = none := by kernel_rfl
theorem laidOut : laidOutB Tryz.prog = true := by kernel_rfl

/-- What is asked of numbers that are read. -/
structure Tz (s e : TypeId) : Prop where
  ty : Ty s e
  num : Tryz.prog.underlying e = some (.int .i64)
  one : Tryz.prog.cellsOf e = 1
  und : Tryz.checked.prog.underlying s = some (.slice e)
  bytes : Tryz.checked.prog.bytesOf e = 8
theorem tzI : Tz 25 3 := ⟨tyI, by kernel_rfl, by kernel_rfl, by kernel_rfl, by kernel_rfl⟩
theorem tzL : Tz 28 2 := ⟨tyL, by kernel_rfl, by kernel_rfl, by kernel_rfl, by kernel_rfl⟩

theorem cells_one {W : World} {a : Addr} {cs : List Value} (h : W.cells? 0 a 1 = some cs) : ∃ v, cs = [v] ∧ W.cell? a = some v := by
  obtain ⟨_, hl, hg⟩ := World.cells?_some h
  match cs, hl with
  | [c], _ =>
    have := hg 0 (by omega)
    have e : a.add 0 = a := by cases a; rfl
    rw [e] at this
    exact ⟨c, rfl, by simpa using this⟩
theorem addr_none {W : World} {a : Addr} {v : Value} (h : W.cell? a = some v) : ∃ b off, a = ⟨b, off, none⟩ := by
  obtain ⟨b, off, spot⟩ := a
  have := World.cell?_spot h
  simp at this
  subst this
  exact ⟨b, off, rfl⟩
theorem nth_made (f : Nat → Int) (N k : Nat) (h : k < N) : nth ((List.range N).map f) k = f k := by simp [nth, h]

/-- A slice of numbers that was read is a list. -/
theorem open_nums {s e : TypeId} (tz : Tz s e) {H : Type} {enc : TypeId × Value → H} {W : World} {fuel : Nat} {c : Value} {x : DataW H × List MemPlace} (h : DataW.trod enc Tryz.prog W 0 (fun _ => true) true fuel s [c] = some x)
    (hz : ∀ n ∈ x.1.weights Tryz.checked.prog s, n ≤ 140737488351232) : ∃ ao n cap zs, c = .slice ao n cap ∧ Rd W ao n zs ∧ Sl ao n cap := by
  rcases Go.Deep.open_slice tz.ty.und h with ⟨hcs, _⟩ | ⟨a', len, cap', m, n, D, Pl, hcs, _, hl, hm, hmm, hx, hel⟩
  · cases hcs
    exact ⟨_, _, _, [], rfl, Rd.nil _, fun _ => ⟨rfl, rfl⟩, by omega, by omega⟩
  · cases hcs
    simp at hmm
    subst hmm
    have hroom : m * 8 ≤ 140737488351232 := by
      have := hz (m * 8) (by rw [hx]; simp only [DataW.weights, tz.und, List.mem_cons, tz.bytes]; left; simp; omega)
      omega
    unfold maxLen at hm
    have hq : ∀ i, i < len → ∃ z : Int, W.cell? (a'.add i) = some (.int .i64 z) ∧ -9223372036854775808 ≤ z ∧ z ≤ 9223372036854775807 := by
      intro i hi
      obtain ⟨cs', h1, h2⟩ := hel i (by omega)
      rw [tz.one, Nat.mul_one] at h1
      obtain ⟨v, rfl, hv⟩ := cells_one h1
      obtain ⟨z, e, _, wf⟩ := DataW.trod_int tz.num h2
      simp at e
      subst e
      exact ⟨z, hv, bounds_i64 wf⟩
    obtain ⟨f, hf⟩ := Go.Deep.choose_lt hq
    refine ⟨_, _, _, (List.range len).map f, rfl, ⟨by simp, by omega, fun k hk => by rw [nth_made _ _ _ hk]; exact (hf k hk).2, fun h0 => ?_⟩, fun e => (by cases e), hl, by omega⟩
    have h00 := (hf 0 h0).1
    have e0 : a'.add 0 = a' := by cases a'; rfl
    rw [e0] at h00
    obtain ⟨b, off, rfl⟩ := addr_none h00
    have hb := World.block_lt_of_cell? W _ h00
    exact ⟨b, off, rfl, hb, fun k hk => by rw [nth_made _ _ _ hk]; have := (hf k hk).1; rwa [add_at] at this⟩

theorem cellsA : Tryz.prog.cellsOf 36 = 2 := by kernel_rfl
theorem cellsI : Tryz.prog.cellsOf 25 = 1 := by kernel_rfl
theorem cellsL : Tryz.prog.cellsOf 28 = 1 := by kernel_rfl

theorem two_of_len {cs : List Value} (h : cs.length = 2) : ∃ c0 c1, cs = [c0, c1] := by
  match cs, h with
  | [c0, c1], _ => exact ⟨c0, c1, rfl⟩
theorem weights_arr {H : Type} (y0 y1 : DataW H) : (DataW.agg [y0, y1]).weights Tryz.checked.prog 36 = y0.weights Tryz.checked.prog 25 ++ y1.weights Tryz.checked.prog 28 := by
  conv => lhs; rw [DataW.weights]
  rw [show Tryz.checked.prog.underlying 36 = _ from Tryz.underlying36]
  simp [DataW.weightsEach]

/-- An array that was read is two lists. -/
theorem open_arr {H : Type} {enc : TypeId × Value → H} {W : World} {fuel : Nat} {cs : List Value} {x : DataW H × List MemPlace} (h : DataW.trod enc Tryz.prog W 0 (fun _ => true) true fuel 36 cs = some x)
    (hz : ∀ n ∈ x.1.weights Tryz.checked.prog 36, n ≤ 140737488351232) : ∃ so sn sc ao an ac sh at', cs = [.slice so sn sc, .slice ao an ac] ∧ Rd W so sn sh ∧ Sl so sn sc ∧ Rd W ao an at' ∧ Sl ao an ac := by
  obtain ⟨y0, y1, n, rfl, hl, h0, h1⟩ := trod_struct2 Tryz.underlying36 h
  rw [cellsA] at hl
  obtain ⟨c0, c1, rfl⟩ := two_of_len hl
  simp only [cellsI, cellsL, List.drop_zero, List.drop_succ_cons, List.take_succ_cons, List.take_zero] at h0 h1
  have hz' := hz
  rw [weights_arr] at hz'
  obtain ⟨so, sn, sc, sh, rfl, r1, s1⟩ := open_nums tzI h0 (fun n hn => hz' n (List.mem_append.2 (.inl hn)))
  obtain ⟨ao, an, ac, at', rfl, r2, s2⟩ := open_nums tzL h1 (fun n hn => hz' n (List.mem_append.2 (.inr hn)))
  exact ⟨so, sn, sc, ao, an, ac, sh, at', rfl, r1, s1, r2, s2⟩

/-- The weights of an argument. -/
theorem weights_at {H : Type} {ts : List TypeId} {ds : List (DataW H)} (h : (DataW.weightsEach Tryz.checked.prog ts ds).all (· ≤ reachBytes) = true) {j : Nat} {t : TypeId} {d : DataW H} (ht : ts[j]? = some t) (hd : ds[j]? = some d) : ∀ n ∈ d.weights Tryz.checked.prog t, n ≤ 140737488351232 := by
  intro n hn
  have h2 : decide (n ≤ reachBytes) = true := List.all_eq_true.1 h _ (DataW.weights_mem_each ht hd n hn)
  have h3 := of_decide_eq_true h2
  unfold reachBytes at h3
  exact h3
end Go.Proofs.YtppcfpiihkaopaaGreatDoor
