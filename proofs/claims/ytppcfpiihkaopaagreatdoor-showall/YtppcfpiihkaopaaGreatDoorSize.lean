
/- Contracts of package shape's Size and Place, and of the document's own May, Count, Size and Place. -/

import Derived.Test.YtppcfpiihkaopaaGreatDoorProg

import Derived.Test.YtppcfpiihkaopaaGreatDoorBase

namespace Go.Proofs.YtppcfpiihkaopaaGreatDoor

open Go.RowKit

set_option linter.unusedVariables false

theorem quo_gt {p z : Int} (hp : 1 ≤ p) (hz : 0 ≤ z) : 4096 / p < z ↔ 4096 < p * z := by
  rw [Int.mul_comm, ← Int.ediv_lt_iff_lt_mul (by omega)]

set_option maxHeartbeats 1000000 in
theorem may_any (ao : Option Addr) (n cap : Nat) (zs : List Int) (w : World) (h : Rd w ao n zs) :
    Calls Tryz.prog 60 #[.slice ao n cap] w fun e w' => e = .returned (.int .i64 (mayF zs)) ∧ w' = w := by
  have hroom := h.room
  have HL : Hid (zs.length = n) := h.len
  go_enter Tryz.func60, Tryz.ntmps60
  go_wp2
  go_loop [10] (fun i => ∃ k : Nat, k ≤ n ∧ i = .int .i64 (k : Nat) ∧ ∀ j, j < k → 0 ≤ nth zs j) (fun i => n - (intOf i).toNat)
  case atStart => exact ⟨0, Nat.zero_le _, rfl, fun j hj => by omega⟩
  case round =>
    obtain ⟨k, hk, rfl, hz⟩ := hrel
    by_cases hlt : k < n
    · obtain ⟨b, off, rfl, hb, hc⟩ := h.cells (by omega)
      have hc' := hc k hlt
      have hnum := h.num k hlt
      by_cases hneg : nth zs k < 0
      · go_wp2
        go_ret
        exact ⟨ret_int (mayF_neg (by have := HL.out; omega) hneg).symm, rfl⟩
      · have hge : 0 ≤ nth zs k := by omega
        go_wp2
        go_round
        case rel => exact ⟨k + 1, by omega, by go_num, fun j hj => by by_cases e : j = k; (· subst e; exact hge); exact hz j (by omega)⟩
        case measure => simp [intOf]; omega
    · obtain rfl : k = n := by omega
      have hall : ∀ j, j < zs.length → 0 ≤ nth zs j := fun j hj => hz j (by have := HL.out; omega)
      by_cases h8 : 8 < k
      · go_wp2
        go_ret
        exact ⟨ret_int (mayF_long hall (by have := HL.out; omega)).symm, rfl⟩
      · go_wp2
        go_loop [5, 22] (fun p i => ∃ m : Nat, m ≤ k ∧ i = .int .i64 (m : Nat) ∧ p = .int .i64 (pz (zs.take m)) ∧ pz (zs.take m) ≤ 4096) (fun _ i => k - (intOf i).toNat)
        case atStart => exact ⟨0, Nat.zero_le _, rfl, rfl, by simp [pz]⟩
        case round =>
          obtain ⟨m, hm, rfl, rfl, hle⟩ := hrel
          have hp1 : 1 ≤ pz (zs.take m) := pz_pos m (by have := HL.out; omega) (fun j hj => hz j (by omega))
          by_cases hlt : m < k
          · obtain ⟨b, off, rfl, hb, hc⟩ := h.cells (by omega)
            have hc' := hc m hlt
            have hnum := h.num m hlt
            have hge := hz m hlt
            have HS : Hid (pz (zs.take (m + 1)) = if nth zs m = 0 then pz (zs.take m) else pz (zs.take m) * nth zs m) := by
              have := HL.out
              show _ = _
              rw [take_nth (by omega), pz_snoc]
            have HT : Hid (zs.length = k) := HL
            clear hc h hz
            generalize pz (zs.take m) = p at *
            generalize hx : nth zs m = x at *
            by_cases h0 : x = 0
            · subst h0
              go_wp2
              go_round
              case rel => exact ⟨m + 1, by omega, by go_num, by rw [HS.out, if_pos rfl], by rw [HS.out, if_pos rfl]; exact hle⟩
              case measure => simp [intOf]; omega
            · have h0' : (x == 0) = false := by simpa using h0
              by_cases hbig : 4096 < p * x
              · have hq : 4096 / p < x := (quo_gt hp1 hge).2 hbig
                go_wp2
                go_ret
                exact ⟨ret_int (mayF_great (m := m + 1) hall (by have := HT.out; omega) (by rw [HS.out, if_neg h0]; exact hbig)).symm, rfl⟩
              · have hq : ¬ 4096 / p < x := fun hc => hbig ((quo_gt hp1 hge).1 hc)
                have hmul0 : 0 ≤ p * x := Int.mul_nonneg (by omega) hge
                have hmul1 : p * x ≤ 4096 := by omega
                go_wp2
                go_round
                case rel => exact ⟨m + 1, by omega, by go_num, by rw [HS.out, if_neg h0], by rw [HS.out, if_neg h0]; exact hmul1⟩
                case measure => simp [intOf]; omega
          · obtain rfl : m = k := by omega
            go_wp2
            go_ret
            have hl := HL.out
            exact ⟨ret_int (mayF_ok hall (by omega) (by rw [← hl, List.take_length] at hle; exact hle)).symm, rfl⟩
end Go.Proofs.YtppcfpiihkaopaaGreatDoor

namespace Go.Proofs.YtppcfpiihkaopaaGreatDoor

set_option linter.unusedVariables false

theorem pr_bd {zs : List Int} (hz : ∀ k, k < zs.length → 0 ≤ nth zs k) : ∀ m, m ≤ zs.length → 0 ≤ pr (zs.take m) ∧ pr (zs.take m) ≤ pz (zs.take m)
  | 0, _ => by simp [pr, pz]
  | m + 1, hm => by
    have ih := pr_bd hz m (by omega)
    have hp := pz_pos (l := zs) m (by omega) (fun k hk => hz k (by omega))
    rw [take_nth (by omega), pr_snoc, pz_snoc]
    have h := hz m (by omega)
    split
    · rename_i e; rw [e]; simp; omega
    · exact ⟨Int.mul_nonneg ih.1 h, Int.mul_le_mul_of_nonneg_right ih.2 h⟩

theorem pr_small {zs : List Int} (h0 : mayF zs = 0) (m : Nat) (hm : m ≤ zs.length) : 0 ≤ pr (zs.take m) ∧ pr (zs.take m) ≤ 4096 := by
  obtain ⟨hz, _, hp⟩ := mayF_zero h0
  have h1 := pr_bd hz m hm
  have h2 := pz_up (l := zs) (i := m) zs.length hm (Nat.le_refl _) hz
  rw [List.take_length] at h2
  omega

theorem nth_small {zs : List Int} (h0 : mayF zs = 0) {k : Nat} (hk : k < zs.length) : 0 ≤ nth zs k ∧ nth zs k ≤ 4096 := by
  obtain ⟨hz, _, hp⟩ := mayF_zero h0
  have h1 := hz k hk
  refine ⟨h1, ?_⟩
  by_cases e : nth zs k = 0
  · omega
  · have h2 := pz_up (l := zs) (i := k + 1) zs.length hk (Nat.le_refl _) hz
    have h3 := pz_pos (l := zs) k (by omega) (fun j hj => hz j (by omega))
    rw [List.take_length, take_nth hk, pz_snoc, if_neg e] at h2
    have := Int.mul_le_mul_of_nonneg_right h3 h1
    omega

/-- The answer of Size. -/
def sizeF (zs : List Int) : Int := if mayF zs = 0 then pr zs else 0
theorem sizeF_ok {zs : List Int} (h : mayF zs = 0) : sizeF zs = pr zs := if_pos h
theorem sizeF_no {zs : List Int} (h : mayF zs ≠ 0) : sizeF zs = 0 := if_neg h
theorem sizeF_bd (zs : List Int) : 0 ≤ sizeF zs ∧ sizeF zs ≤ 4096 := by
  unfold sizeF
  split
  · rename_i h; have := pr_small h zs.length (Nat.le_refl _); rwa [List.take_length] at this
  · omega

/-- The place with these indices, reckoned over the first m axes. -/
def plc (zs ys : List Int) : Nat → Int
  | 0 => 0
  | m + 1 => plc zs ys m * nth zs m + nth ys m

abbrev idx (zs ys : List Int) (m : Nat) : Prop := ∀ j, j < m → 0 ≤ nth ys j ∧ nth ys j < nth zs j

theorem plc_bd {zs ys : List Int} : ∀ m, m ≤ zs.length → idx zs ys m → 0 ≤ plc zs ys m ∧ plc zs ys m + 1 ≤ pr (zs.take m)
  | 0, _, _ => by simp [plc, pr]
  | m + 1, hm, h => by
    have ih := plc_bd m (by omega) (fun j hj => h j (by omega))
    have ⟨h1, h2⟩ := h m (by omega)
    rw [take_nth (by omega), pr_snoc]
    simp only [plc]
    have hx : 0 ≤ plc zs ys m * nth zs m := Int.mul_nonneg ih.1 (by omega)
    have hy : (plc zs ys m + 1) * nth zs m ≤ pr (zs.take m) * nth zs m := Int.mul_le_mul_of_nonneg_right ih.2 (by omega)
    rw [Int.add_mul] at hy
    omega

/-- The answers of Place: the number, and the error. -/
def placeE (zs ys : List Int) : Int := if mayF zs ≠ 0 then mayF zs else if ys.length ≠ zs.length then 12 else if idx zs ys zs.length then 0 else 13
def placeN (zs ys : List Int) : Int := if placeE zs ys = 0 then plc zs ys zs.length else 0

theorem place_rank {zs ys : List Int} (h : mayF zs = 0) (hl : ys.length ≠ zs.length) : placeE zs ys = 12 ∧ placeN zs ys = 0 := by
  have e : placeE zs ys = 12 := by unfold placeE; rw [if_neg (by omega), if_pos hl]
  exact ⟨e, by unfold placeN; rw [e, if_neg (by omega)]⟩
theorem place_in {zs ys : List Int} (h : mayF zs = 0) (hl : ys.length = zs.length) (hi : idx zs ys zs.length) : placeE zs ys = 0 ∧ placeN zs ys = plc zs ys zs.length := by
  have e : placeE zs ys = 0 := by unfold placeE; rw [if_neg (by omega), if_neg (by omega), if_pos hi]
  exact ⟨e, by unfold placeN; rw [e, if_pos rfl]⟩
end Go.Proofs.YtppcfpiihkaopaaGreatDoor

namespace Go.Proofs.YtppcfpiihkaopaaGreatDoor

open Go.RowKit

set_option linter.unusedVariables false

set_option maxHeartbeats 1000000 in
theorem size_any (ao : Option Addr) (n cap : Nat) (zs : List Int) (w : World) (h : Rd w ao n zs) :
    Calls Tryz.prog 36 #[.slice ao n cap] w fun e w' => e = .returned (.tuple #[.int .i64 (sizeF zs), .int .i64 (mayF zs)]) ∧ w' = w := by
  have hroom := h.room
  have HL : Hid (zs.length = n) := h.len
  have hm := may_any ao n cap zs w h
  by_cases h0 : mayF zs = 0
  · rw [h0] at hm
    have H0 : Hid (mayF zs = 0) := h0
    clear h0
    go_enter Tryz.func36, Tryz.ntmps36
    go_wp2_with (go_at_call 60; refine hm.mono ?_; rintro e w' ⟨rfl, rfl⟩)
    go_loop [5, 15] (fun p i => ∃ k : Nat, k ≤ n ∧ i = .int .i64 (k : Nat) ∧ p = .int .i64 (pr (zs.take k))) (fun _ i => n - (intOf i).toNat)
    case atStart => exact ⟨0, Nat.zero_le _, rfl, rfl⟩
    case round =>
      obtain ⟨k, hk, rfl, rfl⟩ := hrel
      by_cases hlt : k < n
      · obtain ⟨b, off, rfl, hb, hc⟩ := h.cells (by omega)
        have hc' := hc k hlt
        have hnum := h.num k hlt
        have hb1 := pr_small H0.out (k + 1) (by have := HL.out; omega)
        have e1 : pr (zs.take (k + 1)) = pr (zs.take k) * nth zs k := by rw [take_nth (by have := HL.out; omega), pr_snoc]
        have HS : Hid (pr (zs.take (k + 1)) = pr (zs.take k) * nth zs k) := e1
        rw [e1] at hb1
        clear e1
        go_wp2
        go_round
        case rel => exact ⟨k + 1, by omega, by go_num, by rw [HS.out]⟩
        case measure => simp [intOf]; omega
      · obtain rfl : k = n := by omega
        go_wp2
        go_ret2
        have hl := HL.out
        exact ⟨ret_two (by rw [sizeF_ok H0.out, ← hl, List.take_length]) H0.out.symm, rfl⟩
  · have h0' : (mayF zs != 0) = true := by simpa using h0
    have H0 : Hid (mayF zs ≠ 0) := h0
    clear h0
    go_enter Tryz.func36, Tryz.ntmps36
    go_wp2_with (go_at_call 60; refine hm.mono ?_; rintro e w' ⟨rfl, rfl⟩)
    go_ret2
    exact ⟨ret_two (sizeF_no H0.out).symm rfl, rfl⟩

end Go.Proofs.YtppcfpiihkaopaaGreatDoor
