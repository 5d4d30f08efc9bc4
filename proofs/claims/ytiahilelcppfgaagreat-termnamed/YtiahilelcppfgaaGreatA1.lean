
/- Contracts: lists of numbers held against one another, by package slices. -/

import Derived.Test.YtiahilelcppfgaaGreatCopy

import Derived.Deep.RegionWith

import Derived.Test.YtiahilelcppfgaaGreatProg

import Derived.Test.YtiahilelcppfgaaGreatBase

import Derived.Deep.RegionLaw

namespace Go.Proofs.YtiahilelcppfgaaGreat

open Go.RowKit

set_option linter.unusedVariables false

def apart (ao bo : Option Addr) : Prop := ∀ a b, ao = some a → bo = some b → a.block ≠ b.block

theorem Rd.drew {w : World} {ao : Option Addr} {n : Nat} {zs : List Int} (h : Rd w ao n zs) : Rd w.drew ao n zs :=
  h.below (Below.refl _ w).drew (Nat.le_refl _)

theorem Rd.take {w : World} {ao : Option Addr} {n : Nat} {zs : List Int} (h : Rd w ao n zs) (p : Nat) (hp : p ≤ n) : Rd w ao p (zs.take p) := by
  refine ⟨by rw [List.length_take, h.len]; omega, by have := h.room; omega, fun k hk => by rw [nth_take hk]; exact h.num k (by omega), fun h0 => ?_⟩
  obtain ⟨b, off, e, hb, hc⟩ := h.cells (by omega)
  exact ⟨b, off, e, hb, fun k hk => by rw [nth_take hk]; exact hc k (by omega)⟩

end Go.Proofs.YtiahilelcppfgaaGreat

namespace Go.Proofs.YtiahilelcppfgaaGreat

open Go.RowKit

set_option linter.unusedVariables false

/-- What every slice keeps: nil has no room; as long as its room at most. -/
structure Sl (ao : Option Addr) (n cap : Nat) : Prop where
  nil : ao = none → n = 0 ∧ cap = 0
  le : n ≤ cap
  max : cap ≤ 9223372036854775807

end Go.Proofs.YtiahilelcppfgaaGreat

namespace Go.Proofs.YtiahilelcppfgaaGreat

open Go.RowKit

set_option linter.unusedVariables false

theorem below_drewN {B : Nat} {a w : World} (h : Below B a w) : ∀ n, Below B a (w.drewN n)
  | 0 => h
  | n + 1 => ⟨(below_drewN h n).os, (below_drewN h n).tape, (below_drewN h n).output, (below_drewN h n).size, (below_drewN h n).block⟩

end Go.Proofs.YtiahilelcppfgaaGreat

namespace Go.Proofs.YtiahilelcppfgaaGreat

open Go.RowKit

set_option linter.unusedVariables false

set_option maxHeartbeats 1000000 in
theorem slicesEqual8_any (ao bo : Option Addr) (n m cap cap' : Nat) (zs ys : List Int) (w : World) (h : Rd w ao n zs) (g : Rd w bo m ys) :
    Calls Tryz.prog 95 #[.slice ao n cap, .slice bo m cap'] w fun e w' => e = .returned (.bool (eqB zs ys)) ∧ ∃ q, w' = w.drewN q := by
  have hroom := h.room
  have groom := g.room
  have HL : Hid (zs.length = n) := h.len
  have GL : Hid (ys.length = m) := g.len
  by_cases hnm : n = m
  · subst hnm
    go_enter Tryz.func95, Tryz.ntmps95
    go_wp2
    go_loopw [13] (fun i wr => ∃ k : Nat, k ≤ n ∧ i = .int .i64 (k : Nat) ∧ (∀ j, j < k → nth zs j = nth ys j) ∧ ∃ q, wr = w.drewN q) (fun i _ => n - (intOf i).toNat)
    case atStart => exact ⟨0, Nat.zero_le _, rfl, fun j hj => by omega, 0, rfl⟩
    case round =>
      obtain ⟨k, hk, rfl, hz, q, rfl⟩ := hrel
      by_cases hlt : k < n
      · obtain ⟨b, off, rfl, hb, hc⟩ := h.cells (by omega)
        obtain ⟨b2, off2, rfl, hb2, hc2⟩ := g.cells (by omega)
        have c1 := hc k hlt
        have c2 := hc2 k hlt
        have HZ : Hid (∀ j, j < k → nth zs j = nth ys j) := hz
        clear hc hc2 hz h g
        by_cases he : nth zs k = nth ys k
        · have HE : Hid (nth zs k = nth ys k) := he
          have hne : (nth zs k != nth ys k) = false := by simpa using he
          clear he
          go_wp2
          go_quiet (fail)
          go_wp2
          go_roundw
          case rel => exact ⟨k + 1, by omega, by go_num, fun j hj => by by_cases e : j = k; (· subst e; exact HE.out); exact HZ.out j (by omega), _, rfl⟩
          case measure => simp [intOf]; omega
        · have hne : (nth zs k != nth ys k) = true := by simpa using he
          have HE : Hid (nth zs k ≠ nth ys k) := he
          clear he
          go_wp2
          go_quiet (fail)
          go_wp2
          go_ret
          exact ⟨ret_bool (eqB_no (k := k) (by have := HL.out; omega) HE.out).symm, q + nq, by simp⟩
      · obtain rfl : k = n := by omega
        have HZ : Hid (∀ j, j < k → nth zs j = nth ys j) := hz
        clear hz h g
        go_wp2
        go_ret
        exact ⟨ret_bool (eqB_yes (by have := HL.out; have := GL.out; omega) (fun j hj => HZ.out j (by have := HL.out; omega))).symm, _, rfl⟩
  · have hnm' : ((n : Int) != (m : Int)) = true := by simp; omega
    go_enter Tryz.func95, Tryz.ntmps95
    go_wp2
    go_ret
    exact ⟨ret_bool (eqB_len (by have := HL.out; have := GL.out; omega)).symm, 0, rfl⟩

end Go.Proofs.YtiahilelcppfgaaGreat
