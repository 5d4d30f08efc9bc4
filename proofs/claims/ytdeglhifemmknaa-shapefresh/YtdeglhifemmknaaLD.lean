
/- Layer 2's book is whole. -/

import Derived.Test.YtdeglhifemmknaaLC

namespace Go.Proofs.Ytdeglhifemmknaa

open Go.RowKit

set_option linter.unusedVariables false

theorem Rwi.val {W : World} {e : TypeId} {vs : List Value} {c : Nat → Int} (h : Rwi W e vs c) {i : Nat} {v : Value} (hi : vs[i]? = some v) : ∃ a n cap, v = .slice a n cap ∧ n ≤ 9223372036854775807 ∧ ∀ j, j < n → ∃ g, a = some ⟨g, 0, none⟩ ∧ W.cell? ⟨g, j, none⟩ = some (.int .i64 (c i)) := by
  obtain ⟨l, ho, hl⟩ := h.own i v hi
  obtain ⟨a, cap, rfl⟩ := own_len ho
  refine ⟨a, _, cap, rfl, ?_, fun j hj => ?_⟩
  · rcases ho.2 with ⟨_, h0⟩ | ⟨g, cap', cur, e1, _, _, h3, h4, _⟩
    · omega
    · unfold maxLen at h4; omega
  · obtain ⟨g, hg⟩ := own_lo0 ho (by omega)
    subst hg
    refine ⟨g, rfl, ?_⟩
    rw [ho.cellAt j (by omega), List.getElem?_map, List.getElem?_eq_getElem hj]
    rw [Option.map_some, hl l[j] (List.getElem_mem hj)]
set_option maxRecDepth 20000 in
set_option maxHeartbeats 4000000 in
theorem wholeQ_any (bb : Nat) (so : Option Addr) (m sc : Nat) (sz : Int) (vs : List Value) (S : Nat → Prop) (w : World) (h : Bq w S bb so m sc sz vs) (hm : m ≤ 4000000000000) :
    Calls Try.prog 9 #[.pointer (some ⟨bb, 0, none⟩)] w fun e w' => e = .returned (.bool true) ∧ w' = w := by
  have b0 := h.c0
  have HB : Hid (Bq w S bb so m sc sz vs) := h
  clear h
  go_enter Try.func9, Try.ntmps9
  go_wp2_with fail
  go_loopw [3] (fun s3 wr => ∃ k : Nat, k ≤ m ∧ s3 = .int .i64 (k : Nat) ∧ wr = w) (fun s _ => m - (intOf s).toNat)
  case atStart => exact ⟨0, Nat.zero_le _, rfl, rfl⟩
  case round =>
    obtain ⟨k, hk, rfl, rfl⟩ := hrel
    by_cases hlt : k < m
    · have t1' : (k : Int) < (m : Int) := by omega
      have k0 : (0 : Int) ≤ (k : Int) := by omega
      obtain ⟨v, hv⟩ : ∃ v, vs[k]? = some v := ⟨_, List.getElem?_eq_getElem (by rw [HB.out.vl]; exact hlt)⟩
      obtain ⟨gs, hgs⟩ := own_lo0 HB.out.shp (by omega)
      obtain ⟨a1, n1, cp1, rfl, hn1, hc1⟩ := HB.out.rs.val hv
      have z1 : wr.cell? ⟨gs, k, none⟩ = some (.slice a1 n1 cp1) := (by
        have hh := HB.out.shp
        rw [hgs] at hh
        exact (hh.cellAt k (by omega)).trans hv)
      have ws : IntKind.i64.wrap (-1 - (k : Int)) = mQ k := by rw [IntKind.wrap_i64]; unfold mQ; omega
      have ws2 : wrap64 (-1 - (k : Int)) = mQ k := by unfold mQ wrap64; omega
      have H1 : Hid (∀ j, j < n1 → ∃ g, a1 = some ⟨g, 0, none⟩ ∧ wr.cell? ⟨g, j, none⟩ = some (.int .i64 (mQ k))) := hc1
      rw [hgs] at b0
      have HLT : Hid (k < m) := hlt
      clear hv hc1 hgs
      go_wp2_with fail
      go_loopw [4] (fun s4 V => ∃ j : Nat, j ≤ n1 ∧ s4 = .int .i64 (j : Nat) ∧ V = wr) (fun s _ => n1 - (intOf s).toNat)
      case atStart => exact ⟨0, Nat.zero_le _, rfl, rfl⟩
      case round =>
        obtain ⟨j, hj, rfl, rfl⟩ := hrel
        by_cases hjl : j < n1
        · have q1' : (j : Int) < (n1 : Int) := by omega
          have q0 : (0 : Int) ≤ (j : Int) := by omega
          obtain ⟨g, rfl, hgc⟩ := H1.out j hjl
          go_wp2
          go_roundw
          case rel => exact ⟨j + 1, by omega, (by first | go_num | (refine congrArg (Value.int .i64) ?_; unfold wrap64; omega)), (by first | rfl | trivial)⟩
          case measure => simp [intOf]; omega
        · obtain rfl : j = n1 := by omega
          have q1 : ¬ ((j : Int) < (j : Int)) := by omega
          go_wp2
          go_roundw
          case rel => exact ⟨k + 1, by omega, (by first | go_num | (refine congrArg (Value.int .i64) ?_; unfold wrap64; omega)), (by first | rfl | trivial)⟩
          case measure => have := HLT.out; simp [intOf]; omega
    · obtain rfl : k = m := by omega
      have q1 : ¬ ((k : Int) < (k : Int)) := by omega
      clear hlt
      go_wp2
      go_ret
      exact ⟨rfl, rfl⟩
end Go.Proofs.Ytdeglhifemmknaa
