
/- Contracts of the document's own Agree, Split, both and Cover. -/

import Derived.Test.YtdeglhifemmknaaAt

namespace Go.Proofs.Ytdeglhifemmknaa

open Go.RowKit Go.Deep

set_option linter.unusedVariables false

theorem agr_no {a b : List Int} {k : Nat} (h1 : k < a.length) (h2 : k < b.length) (hne : nth a k ≠ nth b k) : agrB a b = false := by
  unfold agrB
  split
  · rename_i c
    refine eqB_no (k := k) h2 ?_
    rw [nth_take h2]; exact fun e => hne e.symm
  · refine eqB_no (k := k) h1 ?_
    rw [nth_take h1]; exact hne
theorem agr_yes {a b : List Int} (h : ∀ k, k < a.length → k < b.length → nth a k = nth b k) : agrB a b = true := by
  unfold agrB
  split
  · rename_i c
    refine eqB_yes (by rw [List.length_take]; omega) fun k hk => ?_
    rw [nth_take hk]; exact (h k (by omega) hk).symm
  · refine eqB_yes (by rw [List.length_take]; omega) fun k hk => ?_
    rw [nth_take hk]; exact h k hk (by omega)

set_option maxHeartbeats 2000000 in
theorem refAgree_any (ao bo : Option Addr) (n m cap cap' : Nat) (zs ys : List Int) (w : World) (h : Rd w ao n zs) (g : Rd w bo m ys) :
    Calls Try.prog 22 #[.slice ao n cap, .slice bo m cap'] w fun e w' => ∃ co k c, e = .returned (.tuple #[.slice co k c, .int .i64 (agrE zs ys)]) ∧ Fr w' w.heap.size co k c (agrL zs ys) ∧ Below w.heap.size w w' := by
  have hroom := h.room
  have groom := g.room
  have HL : Hid (zs.length = n) := h.len
  have GL : Hid (ys.length = m) := g.len
  go_enter Try.func22, Try.ntmps22
  go_wp2
  go_loopw [6] (fun i wr => ∃ k : Nat, k ≤ n ∧ k ≤ m ∧ i = .int .i64 (k : Nat) ∧ (∀ j, j < k → nth zs j = nth ys j) ∧ ∃ q, wr = w.drewN q) (fun i _ => n - (intOf i).toNat)
  case atStart => exact ⟨0, Nat.zero_le _, Nat.zero_le _, rfl, fun j hj => by omega, 0, rfl⟩
  case round =>
    obtain ⟨k, hk, hk2, rfl, hz, q, rfl⟩ := hrel
    by_cases hlt : k < n
    · by_cases hlt2 : k < m
      · obtain ⟨b, off, rfl, hb, hc⟩ := h.cells (by omega)
        obtain ⟨b2, off2, rfl, hb2, hc2⟩ := g.cells (by omega)
        have c1 := hc k hlt
        have c2 := hc2 k hlt2
        have HZ : Hid (∀ j, j < k → nth zs j = nth ys j) := hz
        clear hc hc2 hz h g
        by_cases he : nth zs k = nth ys k
        · have HE : Hid (nth zs k = nth ys k) := he
          have hne : (nth zs k != nth ys k) = false := by simpa using he
          clear he
          go_wp2
          go_quiet (fail)
          go_wp2
          go_roundw
          case rel => exact ⟨k + 1, by omega, by omega, by go_num, fun j hj => by by_cases e : j = k; (· subst e; exact HE.out); exact HZ.out j (by omega), _, rfl⟩
          case measure => simp [intOf]; omega
        · have hne : (nth zs k != nth ys k) = true := by simpa using he
          have HE : Hid (nth zs k ≠ nth ys k) := he
          clear he
          go_wp2
          go_quiet (fail)
          go_wp2
          go_ret2
          have hb := agr_no (a := zs) (b := ys) (k := k) (by have := HL.out; omega) (by have := GL.out; omega) HE.out
          refine ⟨_, _, _, ret_lone rfl rfl rfl ?_, ?_, below_drewN (below_drewN (Below.refl _ _) _) _⟩
          · unfold agrE; rw [if_neg (by rw [hb]; simp)]
          · rw [show agrL zs ys = [] by unfold agrL; rw [if_neg (by rw [hb]; simp)]]; exact Fr.nil _ _
      · have HZ : Hid (∀ j, j < k → nth zs j = nth ys j) := hz
        clear hz
        have hmn : m < n := by omega
        have hrd := h.drewN q
        go_wp2_with (at_builtin; refine wpList_copy rfl _ _ rfl _ _ _ _ rfl rfl hrd ?_; intro ao3 cap3 w3 hf3 hb3)
        go_ret2
        have hb : agrB zs ys = true := agr_yes (fun j h1 h2 => HZ.out j (by have := GL.out; omega))
        have hbw := below_drewN (Below.refl w.heap.size w) q
        refine ⟨_, _, _, ret_lone rfl rfl rfl ?_, ?_, bt' hbw hb3⟩
        · unfold agrE; rw [if_pos hb]
        · rw [show agrL zs ys = zs by unfold agrL; rw [if_pos hb, if_pos (by have := HL.out; have := GL.out; omega)]]; exact hf3.mono hbw.size
    · have HZ : Hid (∀ j, j < k → nth zs j = nth ys j) := hz
      clear hz
      have hmn : ¬ m < n := by omega
      have hrd := g.drewN q
      go_wp2_with (at_builtin; refine wpList_copy rfl _ _ rfl _ _ _ _ rfl rfl hrd ?_; intro ao3 cap3 w3 hf3 hb3)
      go_ret2
      have hb : agrB zs ys = true := agr_yes (fun j h1 h2 => HZ.out j (by have := HL.out; omega))
      have hbw := below_drewN (Below.refl w.heap.size w) q
      refine ⟨_, _, _, ret_lone rfl rfl rfl ?_, ?_, bt' hbw hb3⟩
      · unfold agrE; rw [if_pos hb]
      · rw [show agrL zs ys = ys by unfold agrL; rw [if_pos hb, if_neg (by have := HL.out; have := GL.out; omega)]]; exact hf3.mono hbw.size
where
  bt' {B : Nat} {a b c : World} (h : Below B a b) (k : Below b.heap.size b c) (hB : B ≤ b.heap.size := by first | assumption | exact Below.size ‹_›) : Below B a c := h.trans (k.mono hB)
end Go.Proofs.Ytdeglhifemmknaa
