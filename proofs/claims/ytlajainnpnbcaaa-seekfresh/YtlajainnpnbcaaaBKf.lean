
/- A book is whole. -/

import Derived.Test.YtlajainnpnbcaaaBKe

namespace Go.Proofs.Ytlajainnpnbcaaa

open Go.RowKit

set_option linter.unusedVariables false

theorem Rwi.val {W : World} {e : TypeId} {vs : List Value} {c : Nat → Int} (h : Rwi W e vs c) {i : Nat} {v : Value} (hi : vs[i]? = some v) : ∃ a n cap, v = .slice a n cap ∧ n ≤ 9223372036854775807 ∧ ∀ j, j < n → ∃ g, a = some ⟨g, 0, none⟩ ∧ W.cell? ⟨g, j, none⟩ = some (.int .i64 (c i)) := by
  obtain ⟨l, ho, hl⟩ := h.own i v hi
  obtain ⟨a, cap, rfl⟩ := own_len ho
  refine ⟨a, _, cap, rfl, ?_, fun j hj => ?_⟩
  · rcases ho.2 with ⟨_, h0⟩ | ⟨g, cap', cur, e1, _, _, h3, h4, _⟩
    · omega
    · unfold maxLen at h4; omega
  · obtain ⟨g, hg⟩ := own_lo0 ho (by omega)
    subst hg
    refine ⟨g, rfl, ?_⟩
    rw [ho.cellAt j (by omega), List.getElem?_map, List.getElem?_eq_getElem hj]
    rw [Option.map_some, hl l[j] (List.getElem_mem hj)]
set_option maxRecDepth 20000 in
set_option maxHeartbeats 4000000 in
theorem whole_any (bb : Nat) (so ao : Option Addr) (m sc ac : Nat) (sz : Int) (vs us : List Value) (S : Nat → Prop) (w : World) (h : Bk w S bb so ao m m sc ac sz vs us) :
    Calls Try.prog 12 #[.pointer (some ⟨bb, 0, none⟩)] w fun e w' => e = .returned (.bool true) ∧ w' = w := by
  obtain ⟨⟨b0, b1, b2⟩, bf⟩ := box3 h.box
  have HB : Hid (Bk w S bb so ao m m sc ac sz vs us) := h
  have hm : m ≤ 41944 := h.hk.1
  clear h
  go_enter Try.func12, Try.ntmps12
  go_wp2_with fail
  go_loopg [3] m (fun g s3 wr => ∃ k : Nat, k ≤ m ∧ g = m - k ∧ s3 = .int .i64 (k : Nat) ∧ wr = w)
  case atStart => exact ⟨0, Nat.zero_le _, rfl, rfl, rfl⟩
  case round =>
    obtain ⟨k, hk, rfl, rfl, rfl⟩ := hrel
    by_cases hlt : k < m
    · have t1 : decide ((k : Int) < (m : Int)) = true := by simp [hlt]
      have t1' : (k : Int) < (m : Int) := by omega
      obtain ⟨v, hv⟩ : ∃ v, vs[k]? = some v := ⟨_, List.getElem?_eq_getElem (by rw [HB.out.vl]; exact hlt)⟩
      obtain ⟨u, hu⟩ : ∃ v, us[k]? = some v := ⟨_, List.getElem?_eq_getElem (by rw [HB.out.ul]; exact hlt)⟩
      obtain ⟨gs, hgs⟩ := own_lo0 HB.out.shp (by omega)
      obtain ⟨ga, hga⟩ := own_lo0 HB.out.atm (by omega)
      subst hgs hga
      obtain ⟨a1, n1, cp1, rfl, hn1, hc1⟩ := HB.out.rs.val hv
      obtain ⟨a2, n2, cp2, rfl, hn2, hc2⟩ := HB.out.ra.val hu
      have z1 : wr.cell? ⟨gs, k, none⟩ = some (.slice a1 n1 cp1) := (HB.out.shp.cellAt k (by omega)).trans hv
      have z2 : wr.cell? ⟨ga, k, none⟩ = some (.slice a2 n2 cp2) := (HB.out.atm.cellAt k (by omega)).trans hu
      have ws : IntKind.i64.wrap (1099511627776 + (k : Int)) = mS k := by rw [IntKind.wrap_i64]; unfold mS; omega
      have wa : IntKind.i64.wrap (-2199023255552 - (k : Int)) = mA k := by rw [IntKind.wrap_i64]; unfold mA; omega
      have H1 : Hid (∀ j, j < n1 → ∃ g, a1 = some ⟨g, 0, none⟩ ∧ wr.cell? ⟨g, j, none⟩ = some (.int .i64 (mS k))) := hc1
      have H2 : Hid (∀ j, j < n2 → ∃ g, a2 = some ⟨g, 0, none⟩ ∧ wr.cell? ⟨g, j, none⟩ = some (.int .i64 (mA k))) := hc2
      clear hv hu hc1 hc2
      go_upto_block 2 with fail
      go_cut [4] from 15 to 39 (fun s4 V => V = wr)
      case first =>
        go_wp2_with fail
        go_loopg [4] n1 (fun g s4 V => ∃ j : Nat, j ≤ n1 ∧ g = n1 - j ∧ s4 = .int .i64 (j : Nat) ∧ V = wr)
        case atStart => exact ⟨0, Nat.zero_le _, rfl, rfl, rfl⟩
        case round =>
          obtain ⟨j, hj, rfl, rfl, rfl⟩ := hrel
          by_cases hjl : j < n1
          · have q1 : decide ((j : Int) < (n1 : Int)) = true := by simp [hjl]
            have q1' : (j : Int) < (n1 : Int) := by omega
            obtain ⟨g, rfl, hgc⟩ := H1.out j hjl
            go_wp2
            go_roundg (n1 - (j + 1))
            case measure => omega
            case rel => exact ⟨j + 1, by omega, rfl, (by first | go_num | (refine congrArg (Value.int .i64) ?_; unfold wrap64; omega)), rfl⟩
          · obtain rfl : j = n1 := by omega
            have q1 : decide ((j : Int) < (j : Int)) = false := by simp
            go_wp2
            go_meet
            case rel => rfl
      case rest =>
      obtain ⟨W2, hW2⟩ : ∃ W, W = wc := ⟨_, rfl⟩
      subst hW2
      subst hcut
      go_wp2_with fail
      go_loopg [5] n2 (fun g s5 V => ∃ j : Nat, j ≤ n2 ∧ g = n2 - j ∧ s5 = .int .i64 (j : Nat) ∧ V = W2)
      case atStart => exact ⟨0, Nat.zero_le _, rfl, rfl, rfl⟩
      case round =>
        obtain ⟨j, hj, rfl, rfl, rfl⟩ := hrel
        by_cases hjl : j < n2
        · have q1 : decide ((j : Int) < (n2 : Int)) = true := by simp [hjl]
          have q1' : (j : Int) < (n2 : Int) := by omega
          obtain ⟨g, rfl, hgc⟩ := H2.out j hjl
          go_wp2
          go_roundg (n2 - (j + 1))
          case measure => omega
          case rel => exact ⟨j + 1, by omega, rfl, (by first | go_num | (refine congrArg (Value.int .i64) ?_; unfold wrap64; omega)), rfl⟩
        · obtain rfl : j = n2 := by omega
          have q1 : decide ((j : Int) < (j : Int)) = false := by simp
          go_wp2
          go_roundg (m - (k + 1))
          case measure => omega
          case rel => exact ⟨k + 1, by omega, rfl, (by first | go_num | (refine congrArg (Value.int .i64) ?_; unfold wrap64; omega)), rfl⟩
    · obtain rfl : k = m := by omega
      have t1 : decide ((k : Int) < (k : Int)) = false := by simp
      clear hlt
      go_wp2
      go_ret
      exact ⟨rfl, rfl⟩
end Go.Proofs.Ytlajainnpnbcaaa
