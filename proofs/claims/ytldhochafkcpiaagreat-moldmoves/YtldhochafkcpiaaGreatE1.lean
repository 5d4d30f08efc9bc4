
/- What the joined shape is, array by array. -/

import Derived.Test.YtldhochafkcpiaaGreatMath2
import Derived.Test.YtldhochafkcpiaaGreatIndices
import Derived.Test.YtldhochafkcpiaaGreatC10
import Derived.Deep.RegionHeld3
import Derived.Deep.DeepCutAuto

namespace Go.Proofs.YtldhochafkcpiaaGreat

set_option linter.unusedVariables false

theorem plc_quo {zs ys : List Int} (hp : allPos zs) (hi : idx zs ys zs.length) : ∀ d m, m + d = zs.length → plc zs ys zs.length / pr (zs.drop m) = plc zs ys m
  | 0, m, e => by
    obtain rfl : m = zs.length := by omega
    rw [List.drop_length]; simp [pr]
  | d + 1, m, e => by
    rw [quo_step (m := m) (by omega) hp, plc_quo hp hi d (m + 1) (by omega)]
    simp only [plc]
    have h1 := hi m (by omega)
    have h2 := hp m (by omega)
    rw [Int.add_comm, Int.add_mul_ediv_right _ _ (by omega), Int.ediv_eq_zero_of_lt h1.1 h1.2, Int.zero_add]

/-- Indices that lead to a place are its own. -/
theorem digs_place {zs ys : List Int} (hp : allPos zs) (hl : ys.length = zs.length) (hi : idx zs ys zs.length) : digs zs (plc zs ys zs.length) = ys := by
  refine ext_nth (by rw [digs_len, hl]) fun k hk => ?_
  rw [digs_len] at hk
  rw [nth_digs hk]
  unfold dg
  rw [plc_quo hp hi (zs.length - (k + 1)) (k + 1) (by omega)]
  simp only [plc]
  have h1 := hi k hk
  rw [Int.add_comm, Int.add_mul_emod_self_right, Int.emod_eq_of_lt h1.1 h1.2]

/-- A place that was told has its indices. -/
theorem back {zs ys : List Int} (h : mayF zs = 0) (hE : placeE zs ys = 0) : 0 ≤ placeN zs ys ∧ placeN zs ys < pr zs ∧ digs zs (placeN zs ys) = ys := by
  by_cases hl : ys.length = zs.length
  · by_cases hi : idx zs ys zs.length
    · have e := (place_in h hl hi).2
      have bd := plc_bd (zs := zs) (ys := ys) zs.length (Nat.le_refl _) hi
      rw [List.take_length] at bd
      rw [e]
      exact ⟨bd.1, by omega, digs_place (allPos_of h bd.1 (by omega)) hl hi⟩
    · have : placeE zs ys = 13 := by unfold placeE; rw [if_neg (by omega), if_neg (by omega), if_neg hi]
      omega
  · have := (place_rank h hl).1; omega
end Go.Proofs.YtldhochafkcpiaaGreat



namespace Go.Proofs.YtldhochafkcpiaaGreat

open Go.RowKit Go.Shelf

attribute [local go_sem] Oper.semAt_some

set_option linter.unusedVariables false

theorem cell_loop {W : World} {l : Nat} {r : Loop} (h : W.heap[l]? = some (.loop r)) (off : Nat) : W.cell? ⟨l, off, none⟩ = none := by
  simp [World.cell?, h]
theorem Rd.keptL {w w' : World} {l : Nat} {r : Loop} {ao : Option Addr} {n : Nat} {zs : List Int} (h : Rd w ao n zs) (hg : w.grownBy w' (some l)) (hl : w.heap[l]? = some (.loop r)) : Rd w' ao n zs := by
  refine ⟨h.len, h.room, h.num, fun h0 => ?_⟩
  obtain ⟨b, off, e, hb, hc⟩ := h.cells h0
  refine ⟨b, off, e, Nat.lt_of_lt_of_le hb hg.size, fun k hk => hg.cell (hc k hk) (fun e => ?_)⟩
  cases e
  have := hc 0 h0
  rw [cell_loop hl] at this
  cases this
theorem Fr.keptL {w w' : World} {B l : Nat} {r : Loop} {ao : Option Addr} {n cap : Nat} {zs : List Int} (h : Fr w B ao n cap zs) (hg : w.grownBy w' (some l)) (hl : w.heap[l]? = some (.loop r)) : Fr w' B ao n cap zs := by
  refine h.kept hg ?_
  rcases h.own.2 with ⟨e, _⟩ | ⟨g, c, cur, e, _, hgg, _⟩
  · cases e; intro b off e; cases e
  · cases e
    intro b off e e2
    cases e; cases e2
    rw [hl] at hgg
    cases hgg
end Go.Proofs.YtldhochafkcpiaaGreat


namespace Go.Proofs.YtldhochafkcpiaaGreat

open Go.RowKit

set_option linter.unusedVariables false

theorem Ft.app {e : TypeId} {W W' : World} {B : Nat} {o : Option Addr} {k c : Nat} {zs : List Int} (h : Ft e W B o k c zs) {B' : Nat} {go : Option Addr} {n gc : Nat} {cs : List Value} (hown : W.ownsRow B' 25 2 (.slice go n gc) n cs) (hg : W.grownBy W' (Value.slice go n gc).ownBlock) (hne : e ≠ 25) : Ft e W' B o k c zs := by
  rcases hown.2 with ⟨e1, _⟩ | ⟨g, c', cur, e1, _, hg', _⟩
  · cases e1; exact h.keep1 hg (fun b off _ e2 => by cases e2)
  · cases e1; exact h.kind hg hg' hne
end Go.Proofs.YtldhochafkcpiaaGreat







namespace Go.Proofs.YtldhochafkcpiaaGreat

open Go.RowKit

set_option linter.unusedVariables false

theorem nth_rng {n j : Nat} {f : Nat → Int} (h : j < n) : nth ((List.range n).map f) j = f j := by
  rw [nth_lt (by simpa using h)]; simp
theorem com_nth {a b : List Int} {i : Nat} (h : i < Nat.max a.length b.length) : nth (com a b) i = max (ext a (Nat.max a.length b.length) i) (ext b (Nat.max a.length b.length) i) := by unfold com; exact nth_rng h
end Go.Proofs.YtldhochafkcpiaaGreat
