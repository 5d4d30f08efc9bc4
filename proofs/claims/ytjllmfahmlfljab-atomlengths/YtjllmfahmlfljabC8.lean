
/- Contracts: two lists, one behind the other, by package slices. -/

import Derived.Test.YtjllmfahmlfljabC4
import Derived.Test.YtjllmfahmlfljabJoin

namespace Go.Proofs.Ytjllmfahmlfljab

open Go.RowKit

set_option linter.unusedVariables false

/-- The cells of the first k pieces. -/
def pcs (p : Nat → Int × Int) (k : Nat) : List Value := (List.range k).flatMap fun j => [.int .i64 (p j).1, .int .i64 (p j).2]
theorem pcs_succ (p : Nat → Int × Int) (k : Nat) : pcs p (k + 1) = pcs p k ++ [.int .i64 (p k).1, .int .i64 (p k).2] := by
  unfold pcs; rw [List.range_succ, List.flatMap_append]; simp
theorem pcs_len (p : Nat → Int × Int) : ∀ k, (pcs p k).length = k * 2
  | 0 => rfl
  | k + 1 => by rw [pcs_succ, List.length_append, pcs_len p k]; simp; omega
theorem pcs_at (p : Nat → Int × Int) : ∀ k j, j < k → (pcs p k)[j * 2]? = some (.int .i64 (p j).1) ∧ (pcs p k)[j * 2 + 1]? = some (.int .i64 (p j).2)
  | 0, j, h => by omega
  | k + 1, j, h => by
    rw [pcs_succ]
    by_cases c : j < k
    · obtain ⟨h1, h2⟩ := pcs_at p k j c
      rw [List.getElem?_append_left (by rw [pcs_len]; omega), List.getElem?_append_left (by rw [pcs_len]; omega)]
      exact ⟨h1, h2⟩
    · obtain rfl : j = k := by omega
      rw [List.getElem?_append_right (by rw [pcs_len]; omega), List.getElem?_append_right (by rw [pcs_len]; omega), pcs_len]
      simp
end Go.Proofs.Ytjllmfahmlfljab


namespace Go.Proofs.Ytjllmfahmlfljab

open Go.RowKit

set_option linter.unusedVariables false

/-- The j-th piece of n of N items, one behind the other. -/
def chk (N n : Nat) (j : Nat) : Int × Int := (((j * n : Nat) : Int), ((min n (N - j * n) : Nat) : Int))

/-- What the pieces of n of N items are, n being above or below 0. -/
structure Pcs (N : Nat) (n : Int) (K : Nat) (p : Nat → Int × Int) : Prop where
  pos : 0 < n → K = ((N : Int) - n + 1).toNat ∧ p = fun (j : Nat) => ((j : Int), n)
  neg : n < 0 → ∃ m : Nat, m = min n.natAbs N ∧ (∀ j, j < K ↔ j * m < N) ∧ p = chk N m

end Go.Proofs.Ytjllmfahmlfljab


namespace Go.Proofs.Ytjllmfahmlfljab

open Go.RowKit

set_option linter.unusedVariables false

/-- How long what is tried is. -/
def lng (n : Int) : Nat := min n.natAbs 4097

/-- All that Pieces tells. -/
def PcT (sh at' : List Int) (n : Int) (K : Nat) (p : Nat → Int × Int) (E : Int) (S A : List Int) : Prop :=
  (mayA sh at' ≠ 0 ∧ E = 1 ∧ K = 0 ∧ S = [] ∧ A = []) ∨ (mayA sh at' = 0 ∧ n = 0 ∧ E = 10 ∧ K = 0 ∧ S = [] ∧ A = []) ∨
  (mayA sh at' = 0 ∧ n ≠ 0 ∧ Pcs (tal sh).toNat n K p ∧ ((0 < K ∧ E = 0 ∧ S = [] ∧ A = []) ∨ (K = 0 ∧ E = mayF ((lng n : Int) :: sh.drop 1) ∧ S = filS ((lng n : Int) :: sh.drop 1) ∧ A = filA ((lng n : Int) :: sh.drop 1) 0)))

end Go.Proofs.Ytjllmfahmlfljab



namespace Go.Proofs.Ytjllmfahmlfljab

open Go.RowKit

set_option linter.unusedVariables false

/-- Two lists, laid down as a list of lists. -/
theorem two_lists {w : World} {vb : Nat} {x y : Value} (h : w.heap[vb]? = some (.cells #[x, y] 22 (0, 0))) : w.cell? ⟨vb, 0, none⟩ = some x ∧ w.cell? ⟨vb, 1, none⟩ = some y :=
  ⟨(box2 h).1, (box2 h).2.1⟩

/-- What Empty tells. -/
def empE (fs ls las : List Int) (told : Bool) : Int := if mayF fs ≠ 0 then mayF fs else if 0 < pr fs then 11 else if told then (if mayA ls las ≠ 0 then 1 else mayF (fs ++ ls)) else 0
def empS (fs ls las : List Int) (told : Bool) : List Int := if empE fs ls las told ≠ 0 then [] else if told then fs ++ ls else fs

structure Em (w W : World) (lo : Option Addr) (ln lc : Nat) (bo : Option Addr) (bn bc : Nat) (fo : Option Addr) (fn : Nat) (ls las fs : List Int) : Prop where
  it : It w W lo ln lc bo bn bc ls las
  f : Rd W fo fn fs
theorem Em.below {w W W' : World} {lo : Option Addr} {ln lc : Nat} {bo : Option Addr} {bn bc : Nat} {fo : Option Addr} {fn : Nat} {ls las fs : List Int} (h : Em w W lo ln lc bo bn bc fo fn ls las fs) (k : Below W.heap.size W W') : Em w W' lo ln lc bo bn bc fo fn ls las fs := ⟨h.it.below k, h.f.below k (Nat.le_refl _)⟩

theorem ft_set {w W : World} {e : TypeId} {B : Nat} {o : Option Addr} {n c : Nat} {zs : List Int} (h : Ft e W B o n c zs) {b : Nat} (hb : b < B) (u v : Value) : Ft e ((W.setCell ⟨b, 0, none⟩ u).setCell ⟨b, 1, none⟩ v) B o n c zs :=
  h.keep1 (set2 W b 0 1 u v) (fun b' off e' => by have := (h.at b' off e').1; intro e2; cases e2; omega)

end Go.Proofs.Ytjllmfahmlfljab
