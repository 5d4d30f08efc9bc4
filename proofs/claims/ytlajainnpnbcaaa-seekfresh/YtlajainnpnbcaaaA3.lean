
/- Contracts: the law's own comparison; the tally; an item's shape. -/

import Derived.Test.YtlajainnpnbcaaaA2

namespace Go.Proofs.Ytlajainnpnbcaaa

open Go.RowKit

set_option linter.unusedVariables false

theorem eqA_len1 {s a t b : List Int} (h : s.length ≠ t.length) : eqA s a t b = false := eqA_sh (eqB_len h)
theorem eqA_len2 {s a t b : List Int} (h : a.length ≠ b.length) : eqA s a t b = false := by unfold eqA; rw [eqB_len h, Bool.and_false]
theorem eqA_no1 {s a t b : List Int} {k : Nat} (hk : k < s.length) (h : nth s k ≠ nth t k) : eqA s a t b = false := eqA_sh (eqB_no hk h)
theorem eqA_no2 {s a t b : List Int} {k : Nat} (hk : k < a.length) (h : nth a k ≠ nth b k) : eqA s a t b = false := by unfold eqA; rw [eqB_no hk h, Bool.and_false]
theorem eqA_yes {s a t b : List Int} (h1 : s.length = t.length) (h2 : ∀ k, k < s.length → nth s k = nth t k) (h3 : a.length = b.length) (h4 : ∀ k, k < a.length → nth a k = nth b k) : eqA s a t b = true := by
  unfold eqA; rw [eqB_yes h1 h2, eqB_yes h3 h4]; rfl
theorem eqA_refl (s a : List Int) : eqA s a s a = true := by unfold eqA; rw [eqB_refl, eqB_refl]; rfl
set_option maxHeartbeats 4000000 in
theorem eq_any (so ao to bo : Option Addr) (sn sc an ac tn tc bn bc : Nat) (s a t b : List Int) (w : World) (hs : Rd w so sn s) (ha : Rd w ao an a) (ht : Rd w to tn t) (hb : Rd w bo bn b) :
    Calls Try.prog 10 #[.agg #[.slice so sn sc, .slice ao an ac], .agg #[.slice to tn tc, .slice bo bn bc]] w fun e w' => e = .returned (.bool (eqA s a t b)) ∧ Below w.heap.size w w' := by
  have HS : Hid (s.length = sn) := hs.len
  have HA : Hid (a.length = an) := ha.len
  have HT : Hid (t.length = tn) := ht.len
  have HB : Hid (b.length = bn) := hb.len
  have rs := hs.room
  have ra := ha.room
  have rt := ht.room
  have rb := hb.room
  have tw := two_boxes w so ao to bo sn sc an ac tn tc bn bc
  have k1 := box_below w (.cells #[.slice so sn sc, .slice ao an ac] 36)
  have k2 := box_below (w.alloc (.cells #[.slice so sn sc, .slice ao an ac] 36)) (.cells #[.slice to tn tc, .slice bo bn bc] 36)
  have hs' := (hs.below k1 (Nat.le_refl _)).below k2 (Nat.le_refl _)
  have ha' := (ha.below k1 (Nat.le_refl _)).below k2 (Nat.le_refl _)
  have ht' := (ht.below k1 (Nat.le_refl _)).below k2 (Nat.le_refl _)
  have hb' := (hb.below k1 (Nat.le_refl _)).below k2 (Nat.le_refl _)
  clear hs ha ht hb k1 k2
  by_cases h1 : sn = tn
  · by_cases h2 : an = bn
    · subst h1 h2
      have h1' : ((sn : Int) != (sn : Int)) = false := by simp
      have h2' : ((an : Int) != (an : Int)) = false := by simp
      go_enter Try.func10, Try.ntmps10
      go_wp2
      go_loopw [5] (fun i wr => ∃ k : Nat, k ≤ sn ∧ i = .int .i64 (k : Nat) ∧ Hid (∀ j, j < k → nth s j = nth t j) ∧ Two w wr so sn sc ao an ac to sn tc bo an bc ∧ Rd wr so sn s ∧ Rd wr ao an a ∧ Rd wr to sn t ∧ Rd wr bo an b) (fun i _ => sn - (intOf i).toNat)
      case atStart => exact ⟨0, Nat.zero_le _, rfl, fun j hj => by omega, tw, hs', ha', ht', hb'⟩
      case round =>
        obtain ⟨k, hk, rfl, HZ, tk, ks, ka, kt, kb⟩ := hrel
        obtain ⟨c1, c2, c3, c4, bel⟩ := tk
        clear tw hs' ha' ht' hb'
        by_cases hlt : k < sn
        · obtain ⟨p, off, rfl, hp, hc⟩ := ks.cells (by omega)
          obtain ⟨p2, off2, rfl, hp2, hc2⟩ := kt.cells (by omega)
          have d1 := hc k hlt
          have d2 := hc2 k hlt
          clear hc hc2
          by_cases he : nth s k = nth t k
          · have hne : (nth s k != nth t k) = false := by simpa using he
            have HE : Hid (nth s k = nth t k) := he
            clear he
            go_wp2
            go_quiet (fail)
            go_wp2
            go_roundw
            case rel => exact ⟨k + 1, by omega, by go_num, fun j hj => by by_cases e : j = k; (· subst e; exact HE.out); exact HZ.out j (by omega), Two.drewN ⟨c1, c2, c3, c4, bel⟩ _, ks.drewN _, ka.drewN _, kt.drewN _, kb.drewN _⟩
            case measure => simp [intOf]; omega
          · have hne : (nth s k != nth t k) = true := by simpa using he
            have HE : Hid (nth s k ≠ nth t k) := he
            clear he
            go_wp2
            go_quiet (fail)
            go_wp2
            go_ret
            exact ⟨ret_bool (eqA_no1 (k := k) (by have := HS.out; omega) HE.out).symm, below_drewN bel _⟩
        · obtain rfl : k = sn := by omega
          go_wp2
          go_loopw [6] (fun i ws => ∃ j : Nat, j ≤ an ∧ i = .int .i64 (j : Nat) ∧ Hid (∀ l, l < j → nth a l = nth b l) ∧ Two w ws so k sc ao an ac to k tc bo an bc ∧ Rd ws ao an a ∧ Rd ws bo an b) (fun i _ => an - (intOf i).toNat)
          case atStart => exact ⟨0, Nat.zero_le _, rfl, fun j hj => by omega, ⟨c1, c2, c3, c4, bel⟩, ka, kb⟩
          case round =>
            clear ks ka kt kb c1 c2 c3 c4 bel
            obtain ⟨j, hj, rfl, HY, tk, ka, kb⟩ := hrel
            obtain ⟨c1, c2, c3, c4, bel⟩ := tk
            by_cases hlt2 : j < an
            · obtain ⟨p, off, rfl, hp, hc⟩ := ka.cells (by omega)
              obtain ⟨p2, off2, rfl, hp2, hc2⟩ := kb.cells (by omega)
              have d1 := hc j hlt2
              have d2 := hc2 j hlt2
              clear hc hc2
              by_cases he : nth a j = nth b j
              · have hne : (nth a j != nth b j) = false := by simpa using he
                have HE : Hid (nth a j = nth b j) := he
                clear he
                go_wp2
                go_quiet (fail)
                go_wp2
                go_roundw
                case rel => exact ⟨j + 1, by omega, by go_num, fun l hl => by by_cases e : l = j; (· subst e; exact HE.out); exact HY.out l (by omega), Two.drewN ⟨c1, c2, c3, c4, bel⟩ _, ka.drewN _, kb.drewN _⟩
                case measure => simp [intOf]; omega
              · have hne : (nth a j != nth b j) = true := by simpa using he
                have HE : Hid (nth a j ≠ nth b j) := he
                clear he
                go_wp2
                go_quiet (fail)
                go_wp2
                go_ret
                exact ⟨ret_bool (eqA_no2 (k := j) (by have := HA.out; omega) HE.out).symm, below_drewN bel _⟩
            · obtain rfl : j = an := by omega
              go_wp2
              go_ret
              exact ⟨ret_bool (eqA_yes (by rw [HS.out, HT.out]) (by rw [HS.out]; exact HZ.out) (by rw [HA.out, HB.out]) (by rw [HA.out]; exact HY.out)).symm, bel⟩
    · subst h1
      have h1' : ((sn : Int) != (sn : Int)) = false := by simp
      have h2' : ((an : Int) != (bn : Int)) = true := by simp; omega
      have H2 : Hid (an ≠ bn) := h2
      clear h2
      go_enter Try.func10, Try.ntmps10
      go_wp2
      go_ret
      exact ⟨ret_bool (eqA_len2 (by rw [HA.out, HB.out]; exact H2.out)).symm, tw.bel⟩
  · have h1' : ((sn : Int) != (tn : Int)) = true := by simp; omega
    have H1 : Hid (sn ≠ tn) := h1
    clear h1
    go_enter Try.func10, Try.ntmps10
    go_wp2
    go_ret
    exact ⟨ret_bool (eqA_len1 (by rw [HS.out, HT.out]; exact H1.out)).symm, tw.bel⟩

/-- The tally of an array that may be. -/
def tal (sh : List Int) : Int := if sh.length = 0 then 1 else nth sh 0

theorem tally_any (so ao : Option Addr) (sn sc an ac : Nat) (sh : List Int) (w : World) (h : Rd w so sn sh) :
    Calls Try.prog 55 #[.agg #[.slice so sn sc, .slice ao an ac]] w fun e w' => e = .returned (.int .i64 (tal sh)) ∧ Below w.heap.size w w' := by
  have hb := box_below w (.cells #[.slice so sn sc, .slice ao an ac] 36)
  have HL : Hid (sh.length = sn) := h.len
  have h' := h.below hb (Nat.le_refl _)
  by_cases h0 : sn = 0
  · subst h0
    go_enter Try.func55, Try.ntmps55
    go_wp2
    go_ret
    exact ⟨ret_int (by unfold tal; rw [if_pos HL.out]), hb⟩
  · have h0' : ((sn : Int) == 0) = false := by simp; omega
    obtain ⟨p, off, rfl, hp, hc⟩ := h'.cells (by omega)
    have c1 := hc 0 (by omega)
    rw [Nat.add_zero] at c1
    have hroom := h.room
    clear hc h h'
    go_enter Try.func55, Try.ntmps55
    go_wp2
    go_ret
    exact ⟨ret_int (by unfold tal; rw [if_neg (by rw [HL.out]; exact h0)]), hb⟩

set_option maxHeartbeats 1000000 in
theorem itemShape_any (so ao : Option Addr) (sn sc an ac : Nat) (sh : List Int) (w : World) (h : Rd w so sn sh) (hs : Sl so sn sc) :
    Calls Try.prog 57 #[.agg #[.slice so sn sc, .slice ao an ac]] w fun e w' => ∃ o c, e = .returned (.slice o (sn - 1) c) ∧ Rd w' o (sn - 1) (sh.drop 1) ∧ Sl o (sn - 1) c ∧ Below w.heap.size w w' := by
  have hb := box_below w (.cells #[.slice so sn sc, .slice ao an ac] 36)
  have HL : Hid (sh.length = sn) := h.len
  have h' := h.below hb (Nat.le_refl _)
  have hle := hs.le
  have hmx := hs.max
  have hroom := h.room
  by_cases h0 : sn = 0
  · subst h0
    go_enter Try.func57, Try.ntmps57
    go_wp2
    go_ret
    exact ⟨none, 0, rfl, h'.dropAll 1 (by omega), ⟨fun _ => ⟨rfl, rfl⟩, by omega, by omega⟩, hb⟩
  · have h0' : ((sn : Int) == 0) = false := by simp; omega
    obtain ⟨p, off, rfl, hp, hc⟩ := h'.cells (by omega)
    clear hc h
    by_cases hc1 : sc = 1
    · obtain rfl : sn = 1 := by omega
      subst hc1
      go_enter Try.func57, Try.ntmps57
      go_wp2
      go_ret
      exact ⟨_, _, rfl, h'.dropAll 1 (by omega), ⟨fun e => (by cases e), by omega, by omega⟩, hb⟩
    · go_enter Try.func57, Try.ntmps57
      go_wp2
      go_ret
      exact ⟨_, _, rfl, h'.dropAt 1 (by omega), ⟨fun e => (by cases e), by omega, by omega⟩, hb⟩

/-- The answer of Items. -/
def itm (sh at' : List Int) : Int := if mayA sh at' = 0 then tal sh else 0

theorem items_any (so ao : Option Addr) (sn sc an ac : Nat) (sh at' : List Int) (w : World) (h : Rd w so sn sh) (g : Rd w ao an at') :
    Calls Try.prog 65 #[.agg #[.slice so sn sc, .slice ao an ac]] w fun e w' => e = .returned (.int .i64 (itm sh at')) ∧ Below w.heap.size w w' := by
  have hb := box_below w (.cells #[.slice so sn sc, .slice ao an ac] 36)
  have h' := h.below hb (Nat.le_refl _)
  have g' := g.below hb (Nat.le_refl _)
  have hm := mayA_any so ao sn sc an ac sh at' _ h' g'
  have ht := fun W (x : Rd W so sn sh) => tally_any so ao sn sc an ac sh W x
  have b0 := allocNew w (.cells #[.slice so sn sc, .slice ao an ac] 36)
  have c0 : (w.alloc (.cells #[.slice so sn sc, .slice ao an ac] 36)).cell? ⟨w.heap.size, 0, none⟩ = some (.slice so sn sc) := (cell_of_row _ _ 0 _ _ (0, 0) b0).trans rfl
  have c1 : (w.alloc (.cells #[.slice so sn sc, .slice ao an ac] 36)).cell? ⟨w.heap.size, 1, none⟩ = some (.slice ao an ac) := (cell_of_row _ _ 1 _ _ (0, 0) b0).trans rfl
  have cc : ∀ W, Below (w.alloc (.cells #[.slice so sn sc, .slice ao an ac] 36)).heap.size (w.alloc (.cells #[.slice so sn sc, .slice ao an ac] 36)) W → W.cell? ⟨w.heap.size, 0, none⟩ = some (.slice so sn sc) ∧ W.cell? ⟨w.heap.size, 1, none⟩ = some (.slice ao an ac) ∧ Rd W so sn sh ∧ Below w.heap.size w W := fun W hW =>
    ⟨(hW.cell (p := ⟨w.heap.size, 0, none⟩) (by simp)).trans c0, (hW.cell (p := ⟨w.heap.size, 1, none⟩) (by simp)).trans c1, h'.below hW (Nat.le_refl _), hb.trans (hW.mono hb.size)⟩
  clear c0 c1 b0 h g h' g'
  by_cases h0 : mayA sh at' = 0
  · rw [h0] at hm
    have HI : Hid (itm sh at' = tal sh) := by show _ = _; unfold itm; rw [if_pos h0]
    clear h0
    go_enter Try.func65, Try.ntmps65
    go_wp2_with (first
      | (go_at_call 19; refine hm.mono ?_; rintro e w1 ⟨rfl, h1⟩; obtain ⟨c0, c1, r1, bel⟩ := cc _ h1; clear cc h1)
      | (go_at_call 55; refine (ht _ r1).mono ?_; rintro e w2 ⟨rfl, h2⟩))
    go_ret
    exact ⟨ret_int HI.out.symm, bel.trans (h2.mono bel.size)⟩
  · have h0' : (mayA sh at' != 0) = true := by simpa using h0
    have HI : Hid (itm sh at' = 0) := by show _ = _; unfold itm; rw [if_neg h0]
    clear h0
    go_enter Try.func65, Try.ntmps65
    go_wp2_with (go_at_call 19; refine hm.mono ?_; rintro e w1 ⟨rfl, h1⟩; obtain ⟨c0, c1, r1, bel⟩ := cc _ h1; clear cc h1)
    go_ret
    exact ⟨ret_int HI.out.symm, bel⟩
end Go.Proofs.Ytlajainnpnbcaaa
