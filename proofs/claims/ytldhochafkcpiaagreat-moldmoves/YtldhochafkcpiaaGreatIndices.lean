
/- Contract of package shape's indices, over the library's slices.Backward. -/

import Derived.Test.YtldhochafkcpiaaGreatLoop
import Derived.Test.YtldhochafkcpiaaGreatMath2
import Derived.RangeFuncBound
import Derived.Deep.OwnRows




namespace Go.Proofs.YtldhochafkcpiaaGreat

open Go.RowKit Go.Shelf Go.Deep

attribute [local go_sem] Oper.semAt_some

set_option linter.unusedVariables false

set_option maxRecDepth 100000 in
set_option maxHeartbeats 2000000 in
/-- slices.Backward's closure: every round, from the last one on. -/
theorem backward1_any (q l Bs : Nat) (hq : 1 ≤ q) (ao : Option Addr) (n cap : Nat) (zs : List Int) (hroom : n * 8 ≤ 140737488351232) (J : Nat → World → Prop)
    (hJ : ∀ k W, J k W → W.cell? ⟨Bs, 0, none⟩ = some (.slice ao n cap) ∧ Rd W ao n zs)
    (hY : ∀ k W, k < n → J (k + 1) W → YieldAt Fence.wide (q - 1) Tryz.prog l #[.int .i64 (k : Nat), .int .i64 (nth zs k)] W fun e W' => e = .returned (.bool true) ∧ J k W')
    (W : World) (h0 : J n W) :
    CallsIn Fence.wide q Tryz.prog 108 #[.func (.yield l) #[] #[], .pointer (some ⟨Bs, 0, none⟩)] W fun e W' => (∃ v, e = .returned v) ∧ J 0 W' := by
  have hc0 := (hJ _ _ h0).1
  refine callsIn_of_wp Tryz.func108 rfl trivial ?_ rfl
  simp only [Tryz.ntmps108, List.size_toArray, List.length_cons, List.length_nil, Nat.reduceAdd, Nat.reduceSub, Array.replicate_succ, Array.replicate_zero, List.push_toArray, List.append_toArray, List.nil_append, List.cons_append]
  gi_wp2
  gi_loopw [3] (fun i wr => ∃ k : Nat, k ≤ n ∧ i = .int .i64 ((k : Int) - 1) ∧ J k wr) (fun i _ => (intOf i + 1).toNat)
  case atStart => exact ⟨n, Nat.le_refl _, rfl, h0⟩
  case round =>
    obtain ⟨k, hk, rfl, hJk⟩ := hrel
    clear hc0
    cases k with
    | zero =>
      gi_wp2
      go_end0
      exact ⟨⟨_, rfl⟩, hJk⟩
    | succ k =>
      obtain ⟨hc, hr⟩ := hJ _ _ hJk
      obtain ⟨b, off, rfl, hb, hcs⟩ := hr.cells (by omega)
      have c1 := hcs k (by omega)
      obtain ⟨fn, tmps, assign, body, hy, hR⟩ := hY k wr (by omega) hJk
      clear hcs hr
      gi_wp2
      refine hR.mono ?_
      rintro e W3 ⟨rfl, hJ3⟩
      gi_wp2
      go_roundw
      case rel => exact ⟨k, by omega, by go_num, hJ3⟩
      case measure => simp [intOf]

theorem backward_any (a : Option Addr) (n cap : Nat) (q : Nat) (w : World) :
    CallsIn Fence.wide q Tryz.prog 92 #[.slice a n cap] w fun e w' => e = .returned (.func (.func 108) #[] #[.pointer (some ⟨w.heap.size, 0, none⟩)]) ∧ w' = w.alloc (.cells #[.slice a n cap] 23) := by
  refine callsIn_of_wp Tryz.func92 rfl trivial ?_ rfl
  simp only [Tryz.ntmps92, List.size_toArray, List.length_cons, List.length_nil, Nat.reduceAdd, Nat.reduceSub, Array.replicate_succ, Array.replicate_zero, List.push_toArray, List.append_toArray, List.nil_append, List.cons_append]
  gi_wp2
  go_ret
  exact ⟨rfl, rfl⟩

theorem some_ne {a b : Nat} (h : a ≠ b) : some a ≠ some b := fun e => h (by cases e; rfl)

theorem grown_of_below {W W' : World} (h : Below W.heap.size W W') : W.grownBy W' none := ⟨h.os, h.tape, h.output, h.size, fun k hk _ => h.block k hk⟩

end Go.Proofs.YtldhochafkcpiaaGreat
