
/- The reader in memory; contract of look. -/

import Derived.Test.YtppcfpiihkaopaaGreatDoorVE

import Derived.Test.YtppcfpiihkaopaaGreatDoorL2

namespace Go.Proofs.YtppcfpiihkaopaaGreatDoor

open Go.RowKit

set_option linter.unusedVariables false

/-- A reader in block g, its rows the call's own from block B on. -/
structure Rdr (W : World) (B g : Nat) (s : List UInt8) (a f : Nat) (d : Int) (lo : Option Addr) (ln lc : Nat) (L : List Int) (no : Option Addr) (nn nc : Nat) (N : List Int) : Prop where
  row : W.heap[g]? = some (.cells #[.string ⟨s.toArray⟩, .int .i64 (a : Int), .int .i64 (f : Int), .int .i64 d, .slice lo ln lc, .slice no nn nc] 56 (0, 0))
  fl : Ft 3 W B lo ln lc L
  fn : Ft 2 W B no nn nc N
theorem box6 {W : World} {g : Nat} {x0 x1 x2 x3 x4 x5 : Value} {t : TypeId} (h : W.heap[g]? = some (.cells #[x0, x1, x2, x3, x4, x5] t (0, 0))) :
    W.cell? ⟨g, 0, none⟩ = some x0 ∧ W.cell? ⟨g, 1, none⟩ = some x1 ∧ W.cell? ⟨g, 2, none⟩ = some x2 ∧ W.cell? ⟨g, 3, none⟩ = some x3 ∧ W.cell? ⟨g, 4, none⟩ = some x4 ∧ W.cell? ⟨g, 5, none⟩ = some x5 ∧ (∀ i, W.frozen? ⟨g, i, none⟩ = false) := by
  have c := fun i => cell_of_row W g i #[x0, x1, x2, x3, x4, x5] t (0, 0) h
  exact ⟨c 0, c 1, c 2, c 3, c 4, c 5, fun i => frozen_of_row W g i _ _ h⟩
theorem Rdr.drew {W : World} {B g : Nat} {s : List UInt8} {a f : Nat} {d : Int} {lo : Option Addr} {ln lc : Nat} {L : List Int} {no : Option Addr} {nn nc : Nat} {N : List Int} (h : Rdr W B g s a f d lo ln lc L no nn nc N) (q : Nat) : Rdr (W.drewN q) B g s a f d lo ln lc L no nn nc N :=
  ⟨h.row, h.fl.below (drewN_belowS W q) (Nat.le_refl _), h.fn.below (drewN_belowS W q) (Nat.le_refl _)⟩
theorem ret_intS {v : Value} {n : Int} (h : v = .int .i64 n) : Ending.returned v = .returned (.int .i64 n) := by rw [h]
theorem wrap64_byte (b : UInt8) : wrap64 (b.toNat : Int) = (b.toNat : Int) := by
  have := b.toNat_lt
  unfold wrap64; omega
set_option maxHeartbeats 1000000 in
theorem look_any (W : World) (B g : Nat) (s : List UInt8) (a f : Nat) (d : Int) (lo : Option Addr) (ln lc : Nat) (L : List Int) (no : Option Addr) (nn nc : Nat) (N : List Int) (h : Rdr W B g s a f d lo ln lc L no nn nc N) (ha : a ≤ s.length) (hs : s.length ≤ 1048576) :
    Calls Tryz.prog 44 #[.pointer (some ⟨g, 0, none⟩)] W fun e W' => e = .returned (.int .i64 (bt s a)) ∧ ∃ q, W' = W.drewN q := by
  obtain ⟨c0, c1, c2, c3, c4, c5, _⟩ := box6 h.row
  by_cases he : a = s.length
  · have t0 : ((a : Int) == (s.length : Int)) = true := by simp [he]
    have t0' : (a == s.length) = true := by simp [he]
    have HB : Hid (bt s a = -1) := bt_none (by omega)
    subst he
    clear h
    go_enter Tryz.func44, Tryz.ntmps44
    go_wp2
    go_quiet (fail)
    go_wp2
    go_ret
    exact ⟨by rw [HB.out]; rfl, _, rfl⟩
  · have hlt : a < s.length := by omega
    have t0 : ((a : Int) == (s.length : Int)) = false := by simp; omega
    have t0' : (a == s.length) = false := by simp [he]
    have HB : Hid (bt s a = ((s[a]'hlt).toNat : Int)) := bt_some (List.getElem?_eq_getElem hlt)
    have hi : (a : Int) < (s.length : Int) := by omega
    clear h he
    go_enter Tryz.func44, Tryz.ntmps44
    go_wp2
    go_quiet (fail)
    revert nq
    intro q1
    go_wp2
    go_quiet (fail)
    go_wp2
    go_ret
    refine ⟨ret_intS ?_, q1 + nq, by simp⟩
    show Value.int .i64 (wrap64 _) = _
    rw [HB.out, wrap64_byte]; rfl
end Go.Proofs.YtppcfpiihkaopaaGreatDoor
