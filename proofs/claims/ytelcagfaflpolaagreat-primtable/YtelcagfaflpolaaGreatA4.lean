
/- Lists of a call's own, of either kind of number; copies of lists by package slices. -/

import Derived.Test.YtelcagfaflpolaaGreatBase
import Derived.Test.YtelcagfaflpolaaGreatSplit2
import Derived.Test.YtelcagfaflpolaaGreatSize
import Derived.Test.YtelcagfaflpolaaGreatAgree
import Derived.Laws.AppendOwnNone

namespace Go.Proofs.YtelcagfaflpolaaGreat

set_option linter.unusedVariables false

/-- What two orders at three places keep. -/
structure T3 (x y z : Int) : Prop where
  le : x ≤ 0 → y ≤ 0 → z ≤ 0 ∧ (z = 0 → x = 0 ∧ y = 0)
  ge : 0 ≤ x → 0 ≤ y → 0 ≤ z ∧ (z = 0 → x = 0 ∧ y = 0)

end Go.Proofs.YtelcagfaflpolaaGreat




namespace Go.Proofs.YtelcagfaflpolaaGreat

open Go.RowKit

set_option linter.unusedVariables false

set_option maxHeartbeats 1000000 in
theorem slicesEqual8_any (ao bo : Option Addr) (n m cap cap' : Nat) (zs ys : List Int) (w : World) (h : Rd w ao n zs) (g : Rd w bo m ys) :
    Calls Tryz.prog 220 #[.slice ao n cap, .slice bo m cap'] w fun e w' => e = .returned (.bool (eqB zs ys)) ∧ ∃ q, w' = w.drewN q := by
  have hroom := h.room
  have groom := g.room
  have HL : Hid (zs.length = n) := h.len
  have GL : Hid (ys.length = m) := g.len
  by_cases hnm : n = m
  · subst hnm
    go_enter Tryz.func220, Tryz.ntmps220
    go_wp2
    go_loopw [13] (fun i wr => ∃ k : Nat, k ≤ n ∧ i = .int .i64 (k : Nat) ∧ (∀ j, j < k → nth zs j = nth ys j) ∧ ∃ q, wr = w.drewN q) (fun i _ => n - (intOf i).toNat)
    case atStart => exact ⟨0, Nat.zero_le _, rfl, fun j hj => by omega, 0, rfl⟩
    case round =>
      obtain ⟨k, hk, rfl, hz, q, rfl⟩ := hrel
      by_cases hlt : k < n
      · obtain ⟨b, off, rfl, hb, hc⟩ := h.cells (by omega)
        obtain ⟨b2, off2, rfl, hb2, hc2⟩ := g.cells (by omega)
        have c1 := hc k hlt
        have c2 := hc2 k hlt
        have HZ : Hid (∀ j, j < k → nth zs j = nth ys j) := hz
        clear hc hc2 hz h g
        by_cases he : nth zs k = nth ys k
        · have HE : Hid (nth zs k = nth ys k) := he
          have hne : (nth zs k != nth ys k) = false := by simpa using he
          clear he
          go_wp2
          go_quiet (fail)
          go_wp2
          go_roundw
          case rel => exact ⟨k + 1, by omega, by go_num, fun j hj => by by_cases e : j = k; (· subst e; exact HE.out); exact HZ.out j (by omega), _, rfl⟩
          case measure => simp [intOf]; omega
        · have hne : (nth zs k != nth ys k) = true := by simpa using he
          have HE : Hid (nth zs k ≠ nth ys k) := he
          clear he
          go_wp2
          go_quiet (fail)
          go_wp2
          go_ret
          exact ⟨ret_bool (eqB_no (k := k) (by have := HL.out; omega) HE.out).symm, q + nq, by simp⟩
      · obtain rfl : k = n := by omega
        have HZ : Hid (∀ j, j < k → nth zs j = nth ys j) := hz
        clear hz h g
        go_wp2
        go_ret
        exact ⟨ret_bool (eqB_yes (by have := HL.out; have := GL.out; omega) (fun j hj => HZ.out j (by have := HL.out; omega))).symm, _, rfl⟩
  · have hnm' : ((n : Int) != (m : Int)) = true := by simp; omega
    go_enter Tryz.func220, Tryz.ntmps220
    go_wp2
    go_ret
    exact ⟨ret_bool (eqB_len (by have := HL.out; have := GL.out; omega)).symm, 0, rfl⟩

end Go.Proofs.YtelcagfaflpolaaGreat



namespace Go.Proofs.YtelcagfaflpolaaGreat

open Go.RowKit

set_option linter.unusedVariables false

/-- May an array be? -/
def mayA (sh at' : List Int) : Int := if mayF sh ≠ 0 then mayF sh else if (at'.length : Int) ≠ pr sh then 1 else 0
theorem mayA_sh {sh at' : List Int} (h : mayF sh ≠ 0) : mayA sh at' = mayF sh := if_pos h
theorem mayA_no {sh at' : List Int} (h : mayF sh = 0) (k : (at'.length : Int) ≠ pr sh) : mayA sh at' = 1 := by unfold mayA; rw [if_neg (by omega), if_pos k]
theorem mayA_ok {sh at' : List Int} (h : mayF sh = 0) (k : (at'.length : Int) = pr sh) : mayA sh at' = 0 := by unfold mayA; rw [if_neg (by omega), if_neg (by omega)]
theorem mayA_zero {sh at' : List Int} (h : mayA sh at' = 0) : mayF sh = 0 ∧ (at'.length : Int) = pr sh := by
  unfold mayA at h
  by_cases c : mayF sh = 0
  · rw [if_neg (by omega)] at h
    by_cases d : (at'.length : Int) = pr sh
    · exact ⟨c, d⟩
    · rw [if_pos d] at h; omega
  · rw [if_pos c] at h; omega

theorem box_below (w : World) (o : Obj) : Below w.heap.size w (w.alloc o) := (Below.refl _ w).alloc (Nat.le_refl _) o

set_option maxHeartbeats 1000000 in
theorem mayA_any (so ao : Option Addr) (sn sc an ac : Nat) (sh at' : List Int) (w : World) (h : Rd w so sn sh) (g : Rd w ao an at') :
    Calls Tryz.prog 13 #[.agg #[.slice so sn sc, .slice ao an ac]] w fun e w' => e = .returned (.int .i64 (mayA sh at')) ∧ Below w.heap.size w w' := by
  have groom := g.room
  have GL : Hid (at'.length = an) := g.len
  have hb := box_below w (.cells #[.slice so sn sc, .slice ao an ac] 36)
  have hz := size_any so sn sc sh _ (h.below hb (Nat.le_refl _))
  have bd := sizeF_bd sh
  by_cases h0 : mayF sh = 0
  · rw [h0] at hz
    have H0 : Hid (mayF sh = 0) := h0
    have HP : Hid (sizeF sh = pr sh) := sizeF_ok h0
    clear h0
    generalize sizeF sh = z at *
    by_cases hn : (an : Int) = z
    · have hn' : ((an : Int) != z) = false := by simpa using hn
      have HN : Hid ((an : Int) = z) := hn
      clear hn
      go_enter Tryz.func13, Tryz.ntmps13
      go_wp2_with (go_at_call 22; refine hz.mono ?_; rintro e w' ⟨rfl, rfl⟩)
      go_ret
      exact ⟨ret_int (mayA_ok H0.out (by rw [GL.out, HN.out, HP.out])).symm, hb⟩
    · have hn' : ((an : Int) != z) = true := by simpa using hn
      have HN : Hid ((an : Int) ≠ z) := hn
      clear hn
      go_enter Tryz.func13, Tryz.ntmps13
      go_wp2_with (go_at_call 22; refine hz.mono ?_; rintro e w' ⟨rfl, rfl⟩)
      go_ret
      exact ⟨ret_int (mayA_no H0.out (by rw [GL.out, ← HP.out]; exact HN.out)).symm, hb⟩
  · have h0' : (mayF sh != 0) = true := by simpa using h0
    have H0 : Hid (mayF sh ≠ 0) := h0
    clear h0
    go_enter Tryz.func13, Tryz.ntmps13
    go_wp2_with (go_at_call 22; refine hz.mono ?_; rintro e w' ⟨rfl, rfl⟩)
    go_ret
    exact ⟨ret_int (mayA_sh H0.out).symm, hb⟩

theorem allocNew (w : World) (o : Obj) : (w.alloc o).heap[w.heap.size]? = some o := by
  unfold World.alloc
  simp

/-- Two arrays, each in a box. -/
structure Two (w W : World) (so sn sc ao an ac to tn tc bo bn bc) : Prop where
  s0 : W.cell? ⟨w.heap.size, 0, none⟩ = some (.slice so sn sc)
  a0 : W.cell? ⟨w.heap.size, 1, none⟩ = some (.slice ao an ac)
  s1 : W.cell? ⟨w.heap.size + 1, 0, none⟩ = some (.slice to tn tc)
  a1 : W.cell? ⟨w.heap.size + 1, 1, none⟩ = some (.slice bo bn bc)
  bel : Below w.heap.size w W
theorem Two.drewN {w W : World} {so sn sc ao an ac to tn tc bo bn bc} (h : Two w W so sn sc ao an ac to tn tc bo bn bc) (q : Nat) : Two w (W.drewN q) so sn sc ao an ac to tn tc bo bn bc :=
  ⟨by simpa using h.s0, by simpa using h.a0, by simpa using h.s1, by simpa using h.a1, below_drewN h.bel q⟩
theorem Two.below {w W W' : World} {so sn sc ao an ac to tn tc bo bn bc} (h : Two w W so sn sc ao an ac to tn tc bo bn bc) (k : Below W.heap.size W W') : Two w W' so sn sc ao an ac to tn tc bo bn bc := by
  have l0 := World.block_lt_of_cell? W _ h.s0
  have l1 := World.block_lt_of_cell? W _ h.s1
  exact ⟨(k.cell (p := ⟨w.heap.size, 0, none⟩) l0).trans h.s0, (k.cell (p := ⟨w.heap.size, 1, none⟩) l0).trans h.a0, (k.cell (p := ⟨w.heap.size + 1, 0, none⟩) l1).trans h.s1, (k.cell (p := ⟨w.heap.size + 1, 1, none⟩) l1).trans h.a1, h.bel.trans (k.mono h.bel.size)⟩
theorem two_boxes (w : World) (so ao to bo : Option Addr) (sn sc an ac tn tc bn bc : Nat) :
    Two w ((w.alloc (.cells #[.slice so sn sc, .slice ao an ac] 36)).alloc (.cells #[.slice to tn tc, .slice bo bn bc] 36)) so sn sc ao an ac to tn tc bo bn bc := by
  have b0 := allocNew w (.cells #[.slice so sn sc, .slice ao an ac] 36)
  have b1 := allocNew (w.alloc (.cells #[.slice so sn sc, .slice ao an ac] 36)) (.cells #[.slice to tn tc, .slice bo bn bc] 36)
  have k := box_below (w.alloc (.cells #[.slice so sn sc, .slice ao an ac] 36)) (.cells #[.slice to tn tc, .slice bo bn bc] 36)
  rw [World.size_alloc] at b1
  refine ⟨(k.cell (p := ⟨w.heap.size, 0, none⟩) (by simp)).trans ((cell_of_row _ _ 0 _ _ (0, 0) b0).trans rfl), (k.cell (p := ⟨w.heap.size, 1, none⟩) (by simp)).trans ((cell_of_row _ _ 1 _ _ (0, 0) b0).trans rfl), (cell_of_row _ _ 0 _ _ (0, 0) b1).trans rfl, (cell_of_row _ _ 1 _ _ (0, 0) b1).trans rfl, (box_below w _).trans (k.mono (by simp))⟩

/-- Are two arrays the same? -/
def eqA (s a t b : List Int) : Bool := eqB s t && eqB a b
theorem eqA_sh {s a t b : List Int} (h : eqB s t = false) : eqA s a t b = false := by unfold eqA; rw [h]; rfl
theorem eqA_at {s a t b : List Int} (h : eqB s t = true) : eqA s a t b = eqB a b := by unfold eqA; rw [h]; rfl

set_option maxHeartbeats 1000000 in
theorem same_any (so ao to bo : Option Addr) (sn sc an ac tn tc bn bc : Nat) (s a t b : List Int) (w : World) (hs : Rd w so sn s) (ha : Rd w ao an a) (ht : Rd w to tn t) (hb : Rd w bo bn b) :
    Calls Tryz.prog 181 #[.agg #[.slice so sn sc, .slice ao an ac], .agg #[.slice to tn tc, .slice bo bn bc]] w fun e w' => e = .returned (.bool (eqA s a t b)) ∧ Below w.heap.size w w' := by
  have k1 := box_below w (.cells #[.slice so sn sc, .slice ao an ac] 36)
  have k2 := box_below (w.alloc (.cells #[.slice so sn sc, .slice ao an ac] 36)) (.cells #[.slice to tn tc, .slice bo bn bc] 36)
  have tw := two_boxes w so ao to bo sn sc an ac tn tc bn bc
  have hs' := (hs.below k1 (Nat.le_refl _)).below k2 (Nat.le_refl _)
  have ha' := (ha.below k1 (Nat.le_refl _)).below k2 (Nat.le_refl _)
  have ht' := (ht.below k1 (Nat.le_refl _)).below k2 (Nat.le_refl _)
  have hb' := (hb.below k1 (Nat.le_refl _)).below k2 (Nat.le_refl _)
  have e1 := slicesEqual_any so to sn tn sc tc s t _ hs' ht'
  have e2 := fun W (x : Rd W ao an a) (y : Rd W bo bn b) => slicesEqual8_any ao bo an bn ac bc a b W x y
  clear hs ha ht hb k1 k2 hs' ht'
  by_cases h : eqB s t = true
  · rw [h] at e1
    rw [eqA_at h]
    clear h
    go_enter Tryz.func181, Tryz.ntmps181
    go_wp2_with (first
      | (go_at_call 64; refine e1.mono ?_; rintro e w1 ⟨rfl, q, hw⟩; have tw1 := tw.drewN q; have ha1 := ha'.drewN q; have hb1 := hb'.drewN q; rw [← hw] at tw1 ha1 hb1; clear hw; obtain ⟨_, t2, _, t4, bel⟩ := tw1)
      | (go_at_call 220; refine (e2 _ ha1 hb1).mono ?_; rintro e w2 ⟨rfl, q2, hw2⟩; have bel2 := below_drewN bel q2; rw [← hw2] at bel2; clear hw2))
    go_ret
    exact ⟨rfl, bel2⟩
  · have h' : eqB s t = false := by simpa using h
    rw [h'] at e1
    rw [eqA_sh h']
    clear h h'
    go_enter Tryz.func181, Tryz.ntmps181
    go_wp2_with (go_at_call 64; refine e1.mono ?_; rintro e w1 ⟨rfl, q, hw⟩; have tw1 := tw.drewN q; rw [← hw] at tw1; clear hw; obtain ⟨_, t2, _, t4, bel⟩ := tw1)
    go_ret
    exact ⟨rfl, bel⟩

end Go.Proofs.YtelcagfaflpolaaGreat


namespace Go.Proofs.YtelcagfaflpolaaGreat

open Go.RowKit

set_option linter.unusedVariables false

theorem eqA_len1 {s a t b : List Int} (h : s.length ≠ t.length) : eqA s a t b = false := eqA_sh (eqB_len h)
theorem eqA_len2 {s a t b : List Int} (h : a.length ≠ b.length) : eqA s a t b = false := by unfold eqA; rw [eqB_len h, Bool.and_false]
theorem eqA_no1 {s a t b : List Int} {k : Nat} (hk : k < s.length) (h : nth s k ≠ nth t k) : eqA s a t b = false := eqA_sh (eqB_no hk h)
theorem eqA_no2 {s a t b : List Int} {k : Nat} (hk : k < a.length) (h : nth a k ≠ nth b k) : eqA s a t b = false := by unfold eqA; rw [eqB_no hk h, Bool.and_false]
theorem eqA_yes {s a t b : List Int} (h1 : s.length = t.length) (h2 : ∀ k, k < s.length → nth s k = nth t k) (h3 : a.length = b.length) (h4 : ∀ k, k < a.length → nth a k = nth b k) : eqA s a t b = true := by
  unfold eqA; rw [eqB_yes h1 h2, eqB_yes h3 h4]; rfl
set_option maxHeartbeats 4000000 in
theorem eq_any (so ao to bo : Option Addr) (sn sc an ac tn tc bn bc : Nat) (s a t b : List Int) (w : World) (hs : Rd w so sn s) (ha : Rd w ao an a) (ht : Rd w to tn t) (hb : Rd w bo bn b) :
    Calls Tryz.prog 18 #[.agg #[.slice so sn sc, .slice ao an ac], .agg #[.slice to tn tc, .slice bo bn bc]] w fun e w' => e = .returned (.bool (eqA s a t b)) ∧ Below w.heap.size w w' := by
  have HS : Hid (s.length = sn) := hs.len
  have HA : Hid (a.length = an) := ha.len
  have HT : Hid (t.length = tn) := ht.len
  have HB : Hid (b.length = bn) := hb.len
  have rs := hs.room
  have ra := ha.room
  have rt := ht.room
  have rb := hb.room
  have tw := two_boxes w so ao to bo sn sc an ac tn tc bn bc
  have k1 := box_below w (.cells #[.slice so sn sc, .slice ao an ac] 36)
  have k2 := box_below (w.alloc (.cells #[.slice so sn sc, .slice ao an ac] 36)) (.cells #[.slice to tn tc, .slice bo bn bc] 36)
  have hs' := (hs.below k1 (Nat.le_refl _)).below k2 (Nat.le_refl _)
  have ha' := (ha.below k1 (Nat.le_refl _)).below k2 (Nat.le_refl _)
  have ht' := (ht.below k1 (Nat.le_refl _)).below k2 (Nat.le_refl _)
  have hb' := (hb.below k1 (Nat.le_refl _)).below k2 (Nat.le_refl _)
  clear hs ha ht hb k1 k2
  by_cases h1 : sn = tn
  · by_cases h2 : an = bn
    · subst h1 h2
      have h1' : ((sn : Int) != (sn : Int)) = false := by simp
      have h2' : ((an : Int) != (an : Int)) = false := by simp
      go_enter Tryz.func18, Tryz.ntmps18
      go_wp2
      go_loopw [5] (fun i wr => ∃ k : Nat, k ≤ sn ∧ i = .int .i64 (k : Nat) ∧ Hid (∀ j, j < k → nth s j = nth t j) ∧ Two w wr so sn sc ao an ac to sn tc bo an bc ∧ Rd wr so sn s ∧ Rd wr ao an a ∧ Rd wr to sn t ∧ Rd wr bo an b) (fun i _ => sn - (intOf i).toNat)
      case atStart => exact ⟨0, Nat.zero_le _, rfl, fun j hj => by omega, tw, hs', ha', ht', hb'⟩
      case round =>
        obtain ⟨k, hk, rfl, HZ, tk, ks, ka, kt, kb⟩ := hrel
        obtain ⟨c1, c2, c3, c4, bel⟩ := tk
        clear tw hs' ha' ht' hb'
        by_cases hlt : k < sn
        · obtain ⟨p, off, rfl, hp, hc⟩ := ks.cells (by omega)
          obtain ⟨p2, off2, rfl, hp2, hc2⟩ := kt.cells (by omega)
          have d1 := hc k hlt
          have d2 := hc2 k hlt
          clear hc hc2
          by_cases he : nth s k = nth t k
          · have hne : (nth s k != nth t k) = false := by simpa using he
            have HE : Hid (nth s k = nth t k) := he
            clear he
            go_wp2
            go_quiet (fail)
            go_wp2
            go_roundw
            case rel => exact ⟨k + 1, by omega, by go_num, fun j hj => by by_cases e : j = k; (· subst e; exact HE.out); exact HZ.out j (by omega), Two.drewN ⟨c1, c2, c3, c4, bel⟩ _, ks.drewN _, ka.drewN _, kt.drewN _, kb.drewN _⟩
            case measure => simp [intOf]; omega
          · have hne : (nth s k != nth t k) = true := by simpa using he
            have HE : Hid (nth s k ≠ nth t k) := he
            clear he
            go_wp2
            go_quiet (fail)
            go_wp2
            go_ret
            exact ⟨ret_bool (eqA_no1 (k := k) (by have := HS.out; omega) HE.out).symm, below_drewN bel _⟩
        · obtain rfl : k = sn := by omega
          go_wp2
          go_loopw [6] (fun i ws => ∃ j : Nat, j ≤ an ∧ i = .int .i64 (j : Nat) ∧ Hid (∀ l, l < j → nth a l = nth b l) ∧ Two w ws so k sc ao an ac to k tc bo an bc ∧ Rd ws ao an a ∧ Rd ws bo an b) (fun i _ => an - (intOf i).toNat)
          case atStart => exact ⟨0, Nat.zero_le _, rfl, fun j hj => by omega, ⟨c1, c2, c3, c4, bel⟩, ka, kb⟩
          case round =>
            clear ks ka kt kb c1 c2 c3 c4 bel
            obtain ⟨j, hj, rfl, HY, tk, ka, kb⟩ := hrel
            obtain ⟨c1, c2, c3, c4, bel⟩ := tk
            by_cases hlt2 : j < an
            · obtain ⟨p, off, rfl, hp, hc⟩ := ka.cells (by omega)
              obtain ⟨p2, off2, rfl, hp2, hc2⟩ := kb.cells (by omega)
              have d1 := hc j hlt2
              have d2 := hc2 j hlt2
              clear hc hc2
              by_cases he : nth a j = nth b j
              · have hne : (nth a j != nth b j) = false := by simpa using he
                have HE : Hid (nth a j = nth b j) := he
                clear he
                go_wp2
                go_quiet (fail)
                go_wp2
                go_roundw
                case rel => exact ⟨j + 1, by omega, by go_num, fun l hl => by by_cases e : l = j; (· subst e; exact HE.out); exact HY.out l (by omega), Two.drewN ⟨c1, c2, c3, c4, bel⟩ _, ka.drewN _, kb.drewN _⟩
                case measure => simp [intOf]; omega
              · have hne : (nth a j != nth b j) = true := by simpa using he
                have HE : Hid (nth a j ≠ nth b j) := he
                clear he
                go_wp2
                go_quiet (fail)
                go_wp2
                go_ret
                exact ⟨ret_bool (eqA_no2 (k := j) (by have := HA.out; omega) HE.out).symm, below_drewN bel _⟩
            · obtain rfl : j = an := by omega
              go_wp2
              go_ret
              exact ⟨ret_bool (eqA_yes (by rw [HS.out, HT.out]) (by rw [HS.out]; exact HZ.out) (by rw [HA.out, HB.out]) (by rw [HA.out]; exact HY.out)).symm, bel⟩
    · subst h1
      have h1' : ((sn : Int) != (sn : Int)) = false := by simp
      have h2' : ((an : Int) != (bn : Int)) = true := by simp; omega
      have H2 : Hid (an ≠ bn) := h2
      clear h2
      go_enter Tryz.func18, Tryz.ntmps18
      go_wp2
      go_ret
      exact ⟨ret_bool (eqA_len2 (by rw [HA.out, HB.out]; exact H2.out)).symm, tw.bel⟩
  · have h1' : ((sn : Int) != (tn : Int)) = true := by simp; omega
    have H1 : Hid (sn ≠ tn) := h1
    clear h1
    go_enter Tryz.func18, Tryz.ntmps18
    go_wp2
    go_ret
    exact ⟨ret_bool (eqA_len1 (by rw [HS.out, HT.out]; exact H1.out)).symm, tw.bel⟩

/-- The tally of an array that may be. -/
def tal (sh : List Int) : Int := if sh.length = 0 then 1 else nth sh 0

theorem tally_any (so ao : Option Addr) (sn sc an ac : Nat) (sh : List Int) (w : World) (h : Rd w so sn sh) :
    Calls Tryz.prog 212 #[.agg #[.slice so sn sc, .slice ao an ac]] w fun e w' => e = .returned (.int .i64 (tal sh)) ∧ Below w.heap.size w w' := by
  have hb := box_below w (.cells #[.slice so sn sc, .slice ao an ac] 36)
  have HL : Hid (sh.length = sn) := h.len
  have h' := h.below hb (Nat.le_refl _)
  by_cases h0 : sn = 0
  · subst h0
    go_enter Tryz.func212, Tryz.ntmps212
    go_wp2
    go_ret
    exact ⟨ret_int (by unfold tal; rw [if_pos HL.out]), hb⟩
  · have h0' : ((sn : Int) == 0) = false := by simp; omega
    obtain ⟨p, off, rfl, hp, hc⟩ := h'.cells (by omega)
    have c1 := hc 0 (by omega)
    rw [Nat.add_zero] at c1
    have hroom := h.room
    clear hc h h'
    go_enter Tryz.func212, Tryz.ntmps212
    go_wp2
    go_ret
    exact ⟨ret_int (by unfold tal; rw [if_neg (by rw [HL.out]; exact h0)]), hb⟩

set_option maxHeartbeats 1000000 in
theorem itemShape_any (so ao : Option Addr) (sn sc an ac : Nat) (sh : List Int) (w : World) (h : Rd w so sn sh) (hs : Sl so sn sc) :
    Calls Tryz.prog 213 #[.agg #[.slice so sn sc, .slice ao an ac]] w fun e w' => ∃ o c, e = .returned (.slice o (sn - 1) c) ∧ Rd w' o (sn - 1) (sh.drop 1) ∧ Sl o (sn - 1) c ∧ Below w.heap.size w w' := by
  have hb := box_below w (.cells #[.slice so sn sc, .slice ao an ac] 36)
  have HL : Hid (sh.length = sn) := h.len
  have h' := h.below hb (Nat.le_refl _)
  have hle := hs.le
  have hmx := hs.max
  have hroom := h.room
  by_cases h0 : sn = 0
  · subst h0
    go_enter Tryz.func213, Tryz.ntmps213
    go_wp2
    go_ret
    exact ⟨none, 0, rfl, h'.dropAll 1 (by omega), ⟨fun _ => ⟨rfl, rfl⟩, by omega, by omega⟩, hb⟩
  · have h0' : ((sn : Int) == 0) = false := by simp; omega
    obtain ⟨p, off, rfl, hp, hc⟩ := h'.cells (by omega)
    clear hc h
    by_cases hc1 : sc = 1
    · obtain rfl : sn = 1 := by omega
      subst hc1
      go_enter Tryz.func213, Tryz.ntmps213
      go_wp2
      go_ret
      exact ⟨_, _, rfl, h'.dropAll 1 (by omega), ⟨fun e => (by cases e), by omega, by omega⟩, hb⟩
    · go_enter Tryz.func213, Tryz.ntmps213
      go_wp2
      go_ret
      exact ⟨_, _, rfl, h'.dropAt 1 (by omega), ⟨fun e => (by cases e), by omega, by omega⟩, hb⟩

/-- The answer of Items. -/
def itm (sh at' : List Int) : Int := if mayA sh at' = 0 then tal sh else 0

theorem items_any (so ao : Option Addr) (sn sc an ac : Nat) (sh at' : List Int) (w : World) (h : Rd w so sn sh) (g : Rd w ao an at') :
    Calls Tryz.prog 182 #[.agg #[.slice so sn sc, .slice ao an ac]] w fun e w' => e = .returned (.int .i64 (itm sh at')) ∧ Below w.heap.size w w' := by
  have hb := box_below w (.cells #[.slice so sn sc, .slice ao an ac] 36)
  have h' := h.below hb (Nat.le_refl _)
  have g' := g.below hb (Nat.le_refl _)
  have hm := mayA_any so ao sn sc an ac sh at' _ h' g'
  have ht := fun W (x : Rd W so sn sh) => tally_any so ao sn sc an ac sh W x
  have b0 := allocNew w (.cells #[.slice so sn sc, .slice ao an ac] 36)
  have c0 : (w.alloc (.cells #[.slice so sn sc, .slice ao an ac] 36)).cell? ⟨w.heap.size, 0, none⟩ = some (.slice so sn sc) := (cell_of_row _ _ 0 _ _ (0, 0) b0).trans rfl
  have c1 : (w.alloc (.cells #[.slice so sn sc, .slice ao an ac] 36)).cell? ⟨w.heap.size, 1, none⟩ = some (.slice ao an ac) := (cell_of_row _ _ 1 _ _ (0, 0) b0).trans rfl
  have cc : ∀ W, Below (w.alloc (.cells #[.slice so sn sc, .slice ao an ac] 36)).heap.size (w.alloc (.cells #[.slice so sn sc, .slice ao an ac] 36)) W → W.cell? ⟨w.heap.size, 0, none⟩ = some (.slice so sn sc) ∧ W.cell? ⟨w.heap.size, 1, none⟩ = some (.slice ao an ac) ∧ Rd W so sn sh ∧ Below w.heap.size w W := fun W hW =>
    ⟨(hW.cell (p := ⟨w.heap.size, 0, none⟩) (by simp)).trans c0, (hW.cell (p := ⟨w.heap.size, 1, none⟩) (by simp)).trans c1, h'.below hW (Nat.le_refl _), hb.trans (hW.mono hb.size)⟩
  clear c0 c1 b0 h g h' g'
  by_cases h0 : mayA sh at' = 0
  · rw [h0] at hm
    have HI : Hid (itm sh at' = tal sh) := by show _ = _; unfold itm; rw [if_pos h0]
    clear h0
    go_enter Tryz.func182, Tryz.ntmps182
    go_wp2_with (first
      | (go_at_call 13; refine hm.mono ?_; rintro e w1 ⟨rfl, h1⟩; obtain ⟨c0, c1, r1, bel⟩ := cc _ h1; clear cc h1)
      | (go_at_call 212; refine (ht _ r1).mono ?_; rintro e w2 ⟨rfl, h2⟩))
    go_ret
    exact ⟨ret_int HI.out.symm, bel.trans (h2.mono bel.size)⟩
  · have h0' : (mayA sh at' != 0) = true := by simpa using h0
    have HI : Hid (itm sh at' = 0) := by show _ = _; unfold itm; rw [if_neg h0]
    clear h0
    go_enter Tryz.func182, Tryz.ntmps182
    go_wp2_with (go_at_call 13; refine hm.mono ?_; rintro e w1 ⟨rfl, h1⟩; obtain ⟨c0, c1, r1, bel⟩ := cc _ h1; clear cc h1)
    go_ret
    exact ⟨ret_int HI.out.symm, bel⟩
end Go.Proofs.YtelcagfaflpolaaGreat



namespace Go.Proofs.YtelcagfaflpolaaGreat

open Go.RowKit

set_option linter.unusedVariables false

/-- Slices of type s hold numbers of type e, each one cell. -/
structure Ty (s e : TypeId) : Prop where
  und : Tryz.prog.underlying s = some (.slice e)
  info : (Tryz.prog.info? e).map (fun i => (i.zero, i.size, i.bytes)) = some (some (.int .i64 0), 1, 8)
theorem tyI : Ty 33 3 := ⟨by kernel_rfl, by kernel_rfl⟩
theorem tyL : Ty 34 2 := ⟨by kernel_rfl, by kernel_rfl⟩

/-- Is a slice nil? -/
theorem nilS {s e : TypeId} (ty : Ty s e) (w : World) (a : Option Addr) (l c : Nat) : (binOp .eql s (.slice a l c) (.slice none 0 0)).run Tryz.prog w = .ok (.bool a.isNone) w := by
  have h : (Op.equal s (.slice a l c) (.slice none 0 0)).run Tryz.prog w = .ok a.isNone w := by
    show (Op.equalIn (9999 + 1) s (.slice a l c) (.slice none 0 0)).run Tryz.prog w = .ok a.isNone w
    rw [Op.equalIn]
    cases a <;> simp [Sem.run_bind, run_underlying ty.und, Result.andThen]
  simp [binOp, h]

/-- A slice of a call's own. -/
structure Ft (e : TypeId) (w : World) (B : Nat) (ao : Option Addr) (n cap : Nat) (zs : List Int) : Prop where
  rd : Rd w ao n zs
  own : w.ownsRow B e 1 (.slice ao n cap) n (zs.map (Value.int .i64))

theorem Ft.mk' {e : TypeId} {w : World} {B : Nat} {v : Value} {n : Nat} {zs : List Int} (hl : zs.length = n) (hr : n * 8 ≤ 140737488351232) (hn : ∀ k, k < n → -9223372036854775808 ≤ nth zs k ∧ nth zs k ≤ 9223372036854775807)
    (h : w.ownsRow B e 1 v n (zs.map (Value.int .i64))) : ∃ ao cap, v = .slice ao n cap ∧ Ft e w B ao n cap zs := by
  have h' := h
  rcases h.2 with ⟨rfl, h0⟩ | ⟨g, cap, cur, rfl, hb, hg, hnc, hcm, hcs, ht⟩
  · subst h0
    exact ⟨none, 0, rfl, ⟨hl, hr, hn, fun h => by omega⟩, h⟩
  · refine ⟨_, cap, rfl, ⟨hl, hr, hn, fun _ => ⟨g, 0, rfl, (Array.getElem?_eq_some_iff.1 hg).1, fun k hk => ?_⟩⟩, h⟩
    have := h'.cells (g := g) rfl k _ (nth_map (by omega))
    have e : (⟨g, 0, none⟩ : Addr).add k = ⟨g, 0 + k, none⟩ := by cases k <;> simp [Addr.add]
    rwa [e] at this
theorem Ft.nil (e : TypeId) (w : World) (B : Nat) : Ft e w B none 0 0 [] := ⟨Rd.nil w, World.ownsRow_nil _ _ _ _⟩
theorem Ft.mono {e : TypeId} {w : World} {B B' : Nat} {ao : Option Addr} {n cap : Nat} {zs : List Int} (h : Ft e w B ao n cap zs) (hb : B' ≤ B) : Ft e w B' ao n cap zs := by
  refine ⟨h.rd, h.own.1, ?_⟩
  rcases h.own.2 with h0 | ⟨g, c, cur, e, hB, r⟩
  · exact .inl h0
  · exact .inr ⟨g, c, cur, e, Nat.le_trans hb hB, r⟩
theorem Ft.below {e : TypeId} {B B' : Nat} {w w' : World} {ao : Option Addr} {n cap : Nat} {zs : List Int} (h : Ft e w B ao n cap zs) (hb : Below B' w w') (hB : w.heap.size ≤ B') : Ft e w' B ao n cap zs := by
  refine ⟨h.rd.below hb hB, h.own.1, ?_⟩
  rcases h.own.2 with h0 | ⟨g, c, cur, e, hB2, hg, r⟩
  · exact .inl h0
  · exact .inr ⟨g, c, cur, e, hB2, by rw [hb.block g (Nat.lt_of_lt_of_le (Array.getElem?_eq_some_iff.1 hg).1 hB)]; exact hg, r⟩
theorem Ft.sl {e : TypeId} {w : World} {B : Nat} {ao : Option Addr} {n cap : Nat} {zs : List Int} (h : Ft e w B ao n cap zs) : Sl ao n cap := by
  rcases h.own.2 with ⟨e1, h0⟩ | ⟨g, c, cur, e1, hB2, hg, hnc, hcm, r⟩
  · cases e1; exact ⟨fun _ => ⟨rfl, rfl⟩, Nat.le_refl _, by omega⟩
  · cases e1; exact ⟨fun e => (by cases e), hnc, by unfold maxLen at hcm; omega⟩

theorem Rd.keep1 {w w' : World} {row : Option Nat} {ao : Option Addr} {n : Nat} {zs : List Int} (h : Rd w ao n zs) (hg : w.grownBy w' row) (hne : ∀ b off, ao = some ⟨b, off, none⟩ → some b ≠ row) : Rd w' ao n zs := by
  refine ⟨h.len, h.room, h.num, fun h0 => ?_⟩
  obtain ⟨b, off, e, hl, hc⟩ := h.cells h0
  exact ⟨b, off, e, Nat.lt_of_lt_of_le hl hg.size, fun k hk => hg.cell (hc k hk) (hne b off e)⟩
theorem Ft.keep1 {e : TypeId} {w w' : World} {B : Nat} {row : Option Nat} {ao : Option Addr} {n cap : Nat} {zs : List Int} (h : Ft e w B ao n cap zs) (hg : w.grownBy w' row) (hne : ∀ b off, ao = some ⟨b, off, none⟩ → some b ≠ row) : Ft e w' B ao n cap zs := by
  refine ⟨h.rd.keep1 hg hne, h.own.1, ?_⟩
  rcases h.own.2 with h0 | ⟨g, c, cur, e, hB2, hg2, r⟩
  · exact .inl h0
  · exact .inr ⟨g, c, cur, e, hB2, by rw [hg.block g (Array.getElem?_eq_some_iff.1 hg2).1 (by cases e; exact hne g 0 rfl)]; exact hg2, r⟩
/-- Where a row of one's own lies. -/
theorem Ft.at {e : TypeId} {w : World} {B : Nat} {ao : Option Addr} {n cap : Nat} {zs : List Int} (h : Ft e w B ao n cap zs) : ∀ b off, ao = some ⟨b, off, none⟩ → B ≤ b ∧ b < w.heap.size := by
  rintro b off rfl
  rcases h.own.2 with ⟨e, _⟩ | ⟨g, c, cur, e, hB2, hg2, r⟩
  · cases e
  · cases e; exact ⟨hB2, (Array.getElem?_eq_some_iff.1 hg2).1⟩

/-- A box of two cells, and both written. -/
theorem box2 {W : World} {g : Nat} {x y : Value} {t : TypeId} (h : W.heap[g]? = some (.cells #[x, y] t (0, 0))) :
    W.cell? ⟨g, 0, none⟩ = some x ∧ W.cell? ⟨g, 1, none⟩ = some y ∧ W.frozen? ⟨g, 0, none⟩ = false ∧ W.frozen? ⟨g, 1, none⟩ = false :=
  ⟨(cell_of_row W g 0 _ t (0, 0) h).trans rfl, (cell_of_row W g 1 _ t (0, 0) h).trans rfl, frozen_of_row W g 0 _ t h, frozen_of_row W g 1 _ t h⟩
theorem set1 (W : World) (b o : Nat) (v : Value) : W.grownBy (W.setCell ⟨b, o, none⟩ v) (some b) :=
  ⟨rfl, rfl, rfl, by simp, fun k _ hk => heap_setCell_other W ⟨b, o, none⟩ k _ (fun e => hk (by simp [e]))⟩
theorem set2 (W : World) (b o o' : Nat) (v v' : Value) : W.grownBy ((W.setCell ⟨b, o, none⟩ v).setCell ⟨b, o', none⟩ v') (some b) :=
  have h := set1 W b o v
  have k := set1 (W.setCell ⟨b, o, none⟩ v) b o' v'
  ⟨k.os.trans h.os, k.tape.trans h.tape, k.output.trans h.output, Nat.le_trans h.size k.size, fun j hj hne => (k.block j (Nat.lt_of_lt_of_le hj h.size) hne).trans (h.block j hj hne)⟩
/-- What is written in a box of the call's own changes nothing that was there. -/
theorem below_set2 {a W : World} {B b : Nat} (o o' : Nat) (v v' : Value) (h : Below B a W) (hb : B ≤ b) (hs : B ≤ a.heap.size) : Below B a ((W.setCell ⟨b, o, none⟩ v).setCell ⟨b, o', none⟩ v') :=
  have k := set2 W b o o' v v'
  ⟨k.os.trans h.os, k.tape.trans h.tape, k.output.trans h.output, Nat.le_trans h.size k.size, fun j hj => (k.block j (Nat.lt_of_lt_of_le (Nat.lt_of_lt_of_le hj hs) h.size) (fun e => by cases e; omega)).trans (h.block j hj)⟩

/-- A row just laid, of as many as it has room for. -/
theorem ft_new (e : TypeId) (w : World) (zs : List Int) (hl : zs.length ≤ 100) (hn : ∀ k, k < zs.length → -9223372036854775808 ≤ nth zs k ∧ nth zs k ≤ 9223372036854775807) :
    Ft e (w.alloc (.cells (zs.map (Value.int .i64)).toArray e)) w.heap.size (some ⟨w.heap.size, 0, none⟩) zs.length zs.length zs := by
  have hb := allocNew w (.cells (zs.map (Value.int .i64)).toArray e)
  refine ⟨⟨rfl, by omega, hn, fun _ => ⟨w.heap.size, 0, rfl, by simp, fun k hk => ?_⟩⟩, by simp, .inr ⟨w.heap.size, zs.length, _, rfl, Nat.le_refl _, hb, Nat.le_refl _, by unfold maxLen; omega, by simp, ?_⟩⟩
  · have := cell_of_row (w.alloc (.cells (zs.map (Value.int .i64)).toArray e)) w.heap.size (0 + k) _ e (0, 0) hb
    rw [this, Nat.zero_add]
    simpa using nth_map hk
  · simp [← List.map_take]

theorem run_joinT {s e : TypeId} (ty : Ty s e) {w : World} (tt : TypeId) (B : Nat) (ao bo : Option Addr) (n cap m cap' : Nat) (zs ys : List Int) (h : Ft e w B ao n cap zs) (g : Rd w bo m ys) (gs : Sl bo m cap') (hr : (n + m) * 8 ≤ 140737488351232) (hB : B ≤ w.heap.size) :
    ∃ co c w', (Builtin.append_ #[s, s] tt #[.slice ao n cap, .slice bo m cap']).run Tryz.prog w = .ok (.slice co (n + m) c) w' ∧ Ft e w' B co (n + m) c (zs ++ ys) ∧ w.grownBy w' (Value.slice ao n cap).ownBlock := by
  obtain ⟨i0, hi, hz0, hz1, hz2⟩ := info_parts ty.info
  have hl := h.rd.len
  have gl := g.len
  have hnum : ∀ k, k < n + m → -9223372036854775808 ≤ nth (zs ++ ys) k ∧ nth (zs ++ ys) k ≤ 9223372036854775807 := by
    intro k hk
    by_cases c : k < n
    · have e : nth (zs ++ ys) k = nth zs k := by unfold nth; simp [List.getElem?_append, hl, c]
      rw [e]; exact h.rd.num k c
    · have e : nth (zs ++ ys) k = nth ys (k - n) := by unfold nth; simp [List.getElem?_append, hl, c]
      rw [e]; exact g.num _ (by omega)
  have fin : ∀ v w', w'.ownsRow B e 1 v (n + m) (zs.map (Value.int .i64) ++ ys.map (Value.int .i64)) → ∃ co c, v = .slice co (n + m) c ∧ Ft e w' B co (n + m) c (zs ++ ys) := fun v w' ho =>
    Ft.mk' (by simp [hl, gl]) hr hnum (by rw [List.map_append]; exact ho)
  cases bo with
  | none =>
    obtain ⟨rfl, rfl⟩ := gs.nil rfl
    have hy : ys = [] := List.eq_nil_of_length_eq_zero gl
    subst hy
    have hrun := run_append_owned_none (P := Tryz.prog) (w := w) B s tt e i0 1 ty.und hi _ n _ h.own
    refine ⟨ao, cap, w, hrun, ?_, World.grownBy.refl _ _⟩
    rw [List.append_nil]; exact h
  | some a =>
    have hnews : ∀ j u, (ys.map (Value.int .i64))[j]? = some u → w.cell? (a.add j) = some u := by
      intro j u hu
      have hj : j < m := by
        have := (List.getElem?_eq_some_iff.1 hu).1
        simpa [gl] using this
      obtain ⟨b, off, e, _, hc⟩ := g.cells (by omega)
      cases e
      exact Rd.news gl hc j u hu
    obtain ⟨v', w', hrun, hown, hgrow, _⟩ := run_append_own (P := Tryz.prog) w B s tt e i0 (.int .i64 0) 1 8 ty.und hi hz0 hz1 hz2 rfl (by decide) _ n _ h.own a m cap' (ys.map (Value.int .i64)) (by rw [List.length_map, gl, Nat.mul_one]) hnews (ints_one ys) (by unfold maxLen; omega) (by omega) hB
    obtain ⟨co, c, rfl, hf⟩ := fin _ _ hown
    exact ⟨co, c, w', hrun, hf, hgrow⟩

theorem wpList_joinT {s e : TypeId} (ty : Ty s e) {w : World} {ops : Array Oper} {rest : List Oper} {o : Oper} {a : Act} {Q : Exit → Act → World → Prop} (hgd : o.guard = none) (p x : Operand)
    (ho : o.op = .call { callee := .builtin .append, args := #[p, x], argTypes := #[s, s] }) (B : Nat) (ao bo : Option Addr) (n cap m cap' : Nat) (zs ys : List Int)
    (hs : a.eval p = .slice ao n cap) (hx : a.eval x = .slice bo m cap') (h : Ft e w B ao n cap zs) (g : Rd w bo m ys) (gs : Sl bo m cap') (hr : (n + m) * 8 ≤ 140737488351232) (hB : B ≤ w.heap.size)
    (hK : ∀ co c w', Ft e w' B co (n + m) c (zs ++ ys) → Below B w w' → wpList Tryz.prog ops Q rest (a.put o.dst (.slice co (n + m) c)) w') : wpList Tryz.prog ops Q (o :: rest) a w := by
  obtain ⟨co, c, w', hrun, hf, hg⟩ := run_joinT ty o.type B ao bo n cap m cap' zs ys h g gs hr hB
  refine wpList_append_run hgd p x s ho _ (by rw [hs, hx]; exact hrun) (hK _ _ _ hf ((Below.refl _ _).grown hg hB ?_))
  intro k e
  exact (h.own.lt k e).1

set_option maxHeartbeats 1000000 in
theorem clone_any (ao : Option Addr) (n cap : Nat) (zs : List Int) (w : World) (h : Rd w ao n zs) (hs : Sl ao n cap) :
    Calls Tryz.prog 34 #[.slice ao n cap] w fun e w' => ∃ ao' cap', e = .returned (.slice ao' n cap') ∧ Ft 3 w' w.heap.size ao' n cap' zs ∧ Below w.heap.size w w' := by
  have hroom := h.room
  rcases hao : ao with _ | a
  · subst hao
    obtain ⟨rfl, rfl⟩ := hs.nil rfl
    have hz : zs = [] := List.eq_nil_of_length_eq_zero h.len
    subst hz
    have hq := fun W a n c => nilS tyI W a n c
    go_enter Tryz.func34, Tryz.ntmps34
    go_wp2
    go_ret
    exact ⟨none, 0, rfl, Ft.nil _ _ _, Below.refl _ _⟩
  · subst hao
    have hb := box_below w (.cells #[] 3)
    have hF : Ft 3 (w.alloc (.cells #[] 3)) w.heap.size (some ⟨w.heap.size, 0, none⟩) 0 0 [] := ft_new 3 w [] (by simp) (fun k hk => by simp at hk)
    have h' := h.below hb (Nat.le_refl _)
    have hq := fun W a n c => nilS tyI W a n c
    go_enter Tryz.func34, Tryz.ntmps34
    go_wp2_with (at_builtin; refine wpList_joinT tyI rfl _ _ rfl w.heap.size _ _ _ _ _ _ _ _ rfl rfl hF h' hs (by omega) hb.size ?_; intro co c w1 hf hb1; rw [Nat.zero_add, List.nil_append] at hf)
    go_ret
    exact ⟨co, c, rfl, hf, hb.trans hb1⟩

set_option maxHeartbeats 1000000 in
theorem clone8_any (ao : Option Addr) (n cap : Nat) (zs : List Int) (w : World) (h : Rd w ao n zs) (hs : Sl ao n cap) :
    Calls Tryz.prog 35 #[.slice ao n cap] w fun e w' => ∃ ao' cap', e = .returned (.slice ao' n cap') ∧ Ft 2 w' w.heap.size ao' n cap' zs ∧ Below w.heap.size w w' := by
  have hroom := h.room
  rcases hao : ao with _ | a
  · subst hao
    obtain ⟨rfl, rfl⟩ := hs.nil rfl
    have hz : zs = [] := List.eq_nil_of_length_eq_zero h.len
    subst hz
    have hq := fun W a n c => nilS tyL W a n c
    go_enter Tryz.func35, Tryz.ntmps35
    go_wp2
    go_ret
    exact ⟨none, 0, rfl, Ft.nil _ _ _, Below.refl _ _⟩
  · subst hao
    have hb := box_below w (.cells #[] 2)
    have hF : Ft 2 (w.alloc (.cells #[] 2)) w.heap.size (some ⟨w.heap.size, 0, none⟩) 0 0 [] := ft_new 2 w [] (by simp) (fun k hk => by simp at hk)
    have h' := h.below hb (Nat.le_refl _)
    have hq := fun W a n c => nilS tyL W a n c
    go_enter Tryz.func35, Tryz.ntmps35
    go_wp2_with (at_builtin; refine wpList_joinT tyL rfl _ _ rfl w.heap.size _ _ _ _ _ _ _ _ rfl rfl hF h' hs (by omega) hb.size ?_; intro co c w1 hf hb1; rw [Nat.zero_add, List.nil_append] at hf)
    go_ret
    exact ⟨co, c, rfl, hf, hb.trans hb1⟩
end Go.Proofs.YtelcagfaflpolaaGreat
