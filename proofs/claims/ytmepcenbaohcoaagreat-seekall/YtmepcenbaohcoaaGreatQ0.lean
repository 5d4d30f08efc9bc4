
/- Two arrays that are the same are told to be, by the law's own Eq. -/

import Derived.Test.YtmepcenbaohcoaaGreatA1

import Derived.Test.YtmepcenbaohcoaaGreatRefs3

namespace Go.Proofs.YtmepcenbaohcoaaGreat

open Go.RowKit

set_option linter.unusedVariables false

/-- May an array be? -/
def mayA (sh at' : List Int) : Int := if mayF sh ≠ 0 then mayF sh else if (at'.length : Int) ≠ pr sh then 1 else 0
theorem mayA_sh {sh at' : List Int} (h : mayF sh ≠ 0) : mayA sh at' = mayF sh := if_pos h
theorem mayA_no {sh at' : List Int} (h : mayF sh = 0) (k : (at'.length : Int) ≠ pr sh) : mayA sh at' = 1 := by unfold mayA; rw [if_neg (by omega), if_pos k]
theorem mayA_ok {sh at' : List Int} (h : mayF sh = 0) (k : (at'.length : Int) = pr sh) : mayA sh at' = 0 := by unfold mayA; rw [if_neg (by omega), if_neg (by omega)]
theorem mayA_zero {sh at' : List Int} (h : mayA sh at' = 0) : mayF sh = 0 ∧ (at'.length : Int) = pr sh := by
  unfold mayA at h
  by_cases c : mayF sh = 0
  · rw [if_neg (by omega)] at h
    by_cases d : (at'.length : Int) = pr sh
    · exact ⟨c, d⟩
    · rw [if_pos d] at h; omega
  · rw [if_pos c] at h; omega

theorem box_below (w : World) (o : Obj) : Below w.heap.size w (w.alloc o) := (Below.refl _ w).alloc (Nat.le_refl _) o

set_option maxHeartbeats 1000000 in
theorem mayA_any (so ao : Option Addr) (sn sc an ac : Nat) (sh at' : List Int) (w : World) (h : Rd w so sn sh) (g : Rd w ao an at') :
    Calls Tryz.prog 20 #[.agg #[.slice so sn sc, .slice ao an ac]] w fun e w' => e = .returned (.int .i64 (mayA sh at')) ∧ Below w.heap.size w w' := by
  have groom := g.room
  have GL : Hid (at'.length = an) := g.len
  have hb := box_below w (.cells #[.slice so sn sc, .slice ao an ac] 30)
  have hz := size_any so sn sc sh _ (h.below hb (Nat.le_refl _))
  have bd := sizeF_bd sh
  by_cases h0 : mayF sh = 0
  · rw [h0] at hz
    have H0 : Hid (mayF sh = 0) := h0
    have HP : Hid (sizeF sh = pr sh) := sizeF_ok h0
    clear h0
    generalize sizeF sh = z at *
    by_cases hn : (an : Int) = z
    · have hn' : ((an : Int) != z) = false := by simpa using hn
      have HN : Hid ((an : Int) = z) := hn
      clear hn
      go_enter Tryz.func20, Tryz.ntmps20
      go_wp2_with (go_at_call 37; refine hz.mono ?_; rintro e w' ⟨rfl, rfl⟩)
      go_ret
      exact ⟨ret_int (mayA_ok H0.out (by rw [GL.out, HN.out, HP.out])).symm, hb⟩
    · have hn' : ((an : Int) != z) = true := by simpa using hn
      have HN : Hid ((an : Int) ≠ z) := hn
      clear hn
      go_enter Tryz.func20, Tryz.ntmps20
      go_wp2_with (go_at_call 37; refine hz.mono ?_; rintro e w' ⟨rfl, rfl⟩)
      go_ret
      exact ⟨ret_int (mayA_no H0.out (by rw [GL.out, ← HP.out]; exact HN.out)).symm, hb⟩
  · have h0' : (mayF sh != 0) = true := by simpa using h0
    have H0 : Hid (mayF sh ≠ 0) := h0
    clear h0
    go_enter Tryz.func20, Tryz.ntmps20
    go_wp2_with (go_at_call 37; refine hz.mono ?_; rintro e w' ⟨rfl, rfl⟩)
    go_ret
    exact ⟨ret_int (mayA_sh H0.out).symm, hb⟩

theorem allocNew (w : World) (o : Obj) : (w.alloc o).heap[w.heap.size]? = some o := by
  unfold World.alloc
  simp

/-- Two arrays, each in a box. -/
structure Two (w W : World) (so sn sc ao an ac to tn tc bo bn bc) : Prop where
  s0 : W.cell? ⟨w.heap.size, 0, none⟩ = some (.slice so sn sc)
  a0 : W.cell? ⟨w.heap.size, 1, none⟩ = some (.slice ao an ac)
  s1 : W.cell? ⟨w.heap.size + 1, 0, none⟩ = some (.slice to tn tc)
  a1 : W.cell? ⟨w.heap.size + 1, 1, none⟩ = some (.slice bo bn bc)
  bel : Below w.heap.size w W
theorem Two.drewN {w W : World} {so sn sc ao an ac to tn tc bo bn bc} (h : Two w W so sn sc ao an ac to tn tc bo bn bc) (q : Nat) : Two w (W.drewN q) so sn sc ao an ac to tn tc bo bn bc :=
  ⟨by simpa using h.s0, by simpa using h.a0, by simpa using h.s1, by simpa using h.a1, below_drewN h.bel q⟩
theorem Two.below {w W W' : World} {so sn sc ao an ac to tn tc bo bn bc} (h : Two w W so sn sc ao an ac to tn tc bo bn bc) (k : Below W.heap.size W W') : Two w W' so sn sc ao an ac to tn tc bo bn bc := by
  have l0 := World.block_lt_of_cell? W _ h.s0
  have l1 := World.block_lt_of_cell? W _ h.s1
  exact ⟨(k.cell (p := ⟨w.heap.size, 0, none⟩) l0).trans h.s0, (k.cell (p := ⟨w.heap.size, 1, none⟩) l0).trans h.a0, (k.cell (p := ⟨w.heap.size + 1, 0, none⟩) l1).trans h.s1, (k.cell (p := ⟨w.heap.size + 1, 1, none⟩) l1).trans h.a1, h.bel.trans (k.mono h.bel.size)⟩
theorem two_boxes (w : World) (so ao to bo : Option Addr) (sn sc an ac tn tc bn bc : Nat) :
    Two w ((w.alloc (.cells #[.slice so sn sc, .slice ao an ac] 30)).alloc (.cells #[.slice to tn tc, .slice bo bn bc] 30)) so sn sc ao an ac to tn tc bo bn bc := by
  have b0 := allocNew w (.cells #[.slice so sn sc, .slice ao an ac] 30)
  have b1 := allocNew (w.alloc (.cells #[.slice so sn sc, .slice ao an ac] 30)) (.cells #[.slice to tn tc, .slice bo bn bc] 30)
  have k := box_below (w.alloc (.cells #[.slice so sn sc, .slice ao an ac] 30)) (.cells #[.slice to tn tc, .slice bo bn bc] 30)
  rw [World.size_alloc] at b1
  refine ⟨(k.cell (p := ⟨w.heap.size, 0, none⟩) (by simp)).trans ((cell_of_row _ _ 0 _ _ (0, 0) b0).trans rfl), (k.cell (p := ⟨w.heap.size, 1, none⟩) (by simp)).trans ((cell_of_row _ _ 1 _ _ (0, 0) b0).trans rfl), (cell_of_row _ _ 0 _ _ (0, 0) b1).trans rfl, (cell_of_row _ _ 1 _ _ (0, 0) b1).trans rfl, (box_below w _).trans (k.mono (by simp))⟩

/-- Are two arrays the same? -/
def eqA (s a t b : List Int) : Bool := eqB s t && eqB a b
theorem eqA_sh {s a t b : List Int} (h : eqB s t = false) : eqA s a t b = false := by unfold eqA; rw [h]; rfl
theorem eqA_at {s a t b : List Int} (h : eqB s t = true) : eqA s a t b = eqB a b := by unfold eqA; rw [h]; rfl

set_option maxHeartbeats 1000000 in
theorem same_any (so ao to bo : Option Addr) (sn sc an ac tn tc bn bc : Nat) (s a t b : List Int) (w : World) (hs : Rd w so sn s) (ha : Rd w ao an a) (ht : Rd w to tn t) (hb : Rd w bo bn b) :
    Calls Tryz.prog 75 #[.agg #[.slice so sn sc, .slice ao an ac], .agg #[.slice to tn tc, .slice bo bn bc]] w fun e w' => e = .returned (.bool (eqA s a t b)) ∧ Below w.heap.size w w' := by
  have k1 := box_below w (.cells #[.slice so sn sc, .slice ao an ac] 30)
  have k2 := box_below (w.alloc (.cells #[.slice so sn sc, .slice ao an ac] 30)) (.cells #[.slice to tn tc, .slice bo bn bc] 30)
  have tw := two_boxes w so ao to bo sn sc an ac tn tc bn bc
  have hs' := (hs.below k1 (Nat.le_refl _)).below k2 (Nat.le_refl _)
  have ha' := (ha.below k1 (Nat.le_refl _)).below k2 (Nat.le_refl _)
  have ht' := (ht.below k1 (Nat.le_refl _)).below k2 (Nat.le_refl _)
  have hb' := (hb.below k1 (Nat.le_refl _)).below k2 (Nat.le_refl _)
  have e1 := slicesEqual_any so to sn tn sc tc s t _ hs' ht'
  have e2 := fun W (x : Rd W ao an a) (y : Rd W bo bn b) => slicesEqual8_any ao bo an bn ac bc a b W x y
  clear hs ha ht hb k1 k2 hs' ht'
  by_cases h : eqB s t = true
  · rw [h] at e1
    rw [eqA_at h]
    clear h
    go_enter Tryz.func75, Tryz.ntmps75
    go_wp2_with (first
      | (go_at_call 91; refine e1.mono ?_; rintro e w1 ⟨rfl, q, hw⟩; have tw1 := tw.drewN q; have ha1 := ha'.drewN q; have hb1 := hb'.drewN q; rw [← hw] at tw1 ha1 hb1; clear hw; obtain ⟨_, t2, _, t4, bel⟩ := tw1)
      | (go_at_call 92; refine (e2 _ ha1 hb1).mono ?_; rintro e w2 ⟨rfl, q2, hw2⟩; have bel2 := below_drewN bel q2; rw [← hw2] at bel2; clear hw2))
    go_ret
    exact ⟨rfl, bel2⟩
  · have h' : eqB s t = false := by simpa using h
    rw [h'] at e1
    rw [eqA_sh h']
    clear h h'
    go_enter Tryz.func75, Tryz.ntmps75
    go_wp2_with (go_at_call 91; refine e1.mono ?_; rintro e w1 ⟨rfl, q, hw⟩; have tw1 := tw.drewN q; rw [← hw] at tw1; clear hw; obtain ⟨_, t2, _, t4, bel⟩ := tw1)
    go_ret
    exact ⟨rfl, bel⟩

set_option maxHeartbeats 1000000 in
theorem cmpA_any (so ao to bo : Option Addr) (sn sc an ac tn tc bn bc : Nat) (s a t b : List Int) (w : World) (hs : Rd w so sn s) (ha : Rd w ao an a) (ht : Rd w to tn t) (hb : Rd w bo bn b) :
    Calls Tryz.prog 86 #[.agg #[.slice so sn sc, .slice ao an ac], .agg #[.slice to tn tc, .slice bo bn bc]] w fun e w' => e = .returned (.int .i64 (cmpA s a t b)) ∧ Below w.heap.size w w' := by
  have HS : Hid (s.length = sn) := hs.len
  have HT : Hid (t.length = tn) := ht.len
  have k1 := box_below w (.cells #[.slice so sn sc, .slice ao an ac] 30)
  have k2 := box_below (w.alloc (.cells #[.slice so sn sc, .slice ao an ac] 30)) (.cells #[.slice to tn tc, .slice bo bn bc] 30)
  have tw := (two_boxes w so ao to bo sn sc an ac tn tc bn bc).bel
  have hs' := (hs.below k1 (Nat.le_refl _)).below k2 (Nat.le_refl _)
  have ha' := (ha.below k1 (Nat.le_refl _)).below k2 (Nat.le_refl _)
  have ht' := (ht.below k1 (Nat.le_refl _)).below k2 (Nat.le_refl _)
  have hb' := (hb.below k1 (Nat.le_refl _)).below k2 (Nat.le_refl _)
  have e0 := fun W => cmp_any (sn : Int) (tn : Int) W
  have e1 := cmps_any so to sn tn sc tc s t _ hs' ht'
  have e2 := cmps8_any ao bo an bn ac bc a b _ ha' hb'
  clear hs ha ht hb k1 k2 hs' ht' ha' hb'
  have HC : Hid (cmpA s a t b = lex (cmpI sn tn) (lex (cmpL s t) (cmpL a b))) := by show _ = _; unfold cmpA; rw [HS.out, HT.out]
  generalize cmpI (sn : Int) (tn : Int) = x at *
  generalize cmpL s t = y at *
  generalize cmpL a b = z at *
  by_cases hx : x = 0
  · have hx' : (x != 0) = false := by simpa using hx
    have HX : Hid (x = 0) := hx
    clear hx
    by_cases hy : y = 0
    · have hy' : (y != 0) = false := by simpa using hy
      have HY : Hid (y = 0) := hy
      clear hy
      go_enter Tryz.func86, Tryz.ntmps86
      go_wp2_with (first
        | (go_at_call 97; refine (e0 _).mono ?_; rintro e w' ⟨rfl, hw⟩; rw [hw]; clear hw w')
        | (go_at_call 98; refine e1.mono ?_; rintro e w' ⟨rfl, hw⟩; rw [hw]; clear hw w')
        | (go_at_call 99; refine e2.mono ?_; rintro e w' ⟨rfl, hw⟩; rw [hw]; clear hw w'))
      go_ret
      exact ⟨ret_int (by rw [HC.out]; unfold lex; rw [if_pos HX.out, if_pos HY.out]), tw⟩
    · have hy' : (y != 0) = true := by simpa using hy
      have HY : Hid (y ≠ 0) := hy
      clear hy
      go_enter Tryz.func86, Tryz.ntmps86
      go_wp2_with (first
        | (go_at_call 97; refine (e0 _).mono ?_; rintro e w' ⟨rfl, hw⟩; rw [hw]; clear hw w')
        | (go_at_call 98; refine e1.mono ?_; rintro e w' ⟨rfl, hw⟩; rw [hw]; clear hw w'))
      go_ret
      exact ⟨ret_int (by rw [HC.out]; unfold lex; rw [if_pos HX.out, if_neg HY.out]), tw⟩
  · have hx' : (x != 0) = true := by simpa using hx
    have HX : Hid (x ≠ 0) := hx
    clear hx
    go_enter Tryz.func86, Tryz.ntmps86
    go_wp2_with (go_at_call 97; refine (e0 _).mono ?_; rintro e w' ⟨rfl, hw⟩; rw [hw]; clear hw w')
    go_ret
    exact ⟨ret_int (by rw [HC.out]; unfold lex; rw [if_neg HX.out]), tw⟩
end Go.Proofs.YtmepcenbaohcoaaGreat

namespace Go.Proofs.YtmepcenbaohcoaaGreat

open Go.RowKit

set_option linter.unusedVariables false

theorem eqA_len1 {s a t b : List Int} (h : s.length ≠ t.length) : eqA s a t b = false := eqA_sh (eqB_len h)
theorem eqA_len2 {s a t b : List Int} (h : a.length ≠ b.length) : eqA s a t b = false := by unfold eqA; rw [eqB_len h, Bool.and_false]
theorem eqA_no1 {s a t b : List Int} {k : Nat} (hk : k < s.length) (h : nth s k ≠ nth t k) : eqA s a t b = false := eqA_sh (eqB_no hk h)
theorem eqA_no2 {s a t b : List Int} {k : Nat} (hk : k < a.length) (h : nth a k ≠ nth b k) : eqA s a t b = false := by unfold eqA; rw [eqB_no hk h, Bool.and_false]
theorem eqA_yes {s a t b : List Int} (h1 : s.length = t.length) (h2 : ∀ k, k < s.length → nth s k = nth t k) (h3 : a.length = b.length) (h4 : ∀ k, k < a.length → nth a k = nth b k) : eqA s a t b = true := by
  unfold eqA; rw [eqB_yes h1 h2, eqB_yes h3 h4]; rfl
theorem eqA_refl (s a : List Int) : eqA s a s a = true := by unfold eqA; rw [eqB_refl, eqB_refl]; rfl
theorem eqA_iff (s a t b : List Int) : eqA s a t b = true ↔ s = t ∧ a = b := by unfold eqA eqB; simp

set_option maxHeartbeats 4000000 in
theorem eq_any (so ao to bo : Option Addr) (sn sc an ac tn tc bn bc : Nat) (s a t b : List Int) (w : World) (hs : Rd w so sn s) (ha : Rd w ao an a) (ht : Rd w to tn t) (hb : Rd w bo bn b) :
    Calls Tryz.prog 11 #[.agg #[.slice so sn sc, .slice ao an ac], .agg #[.slice to tn tc, .slice bo bn bc]] w fun e w' => e = .returned (.bool (eqA s a t b)) ∧ Below w.heap.size w w' := by
  have HS : Hid (s.length = sn) := hs.len
  have HA : Hid (a.length = an) := ha.len
  have HT : Hid (t.length = tn) := ht.len
  have HB : Hid (b.length = bn) := hb.len
  have rs := hs.room
  have ra := ha.room
  have rt := ht.room
  have rb := hb.room
  have tw := two_boxes w so ao to bo sn sc an ac tn tc bn bc
  have k1 := box_below w (.cells #[.slice so sn sc, .slice ao an ac] 30)
  have k2 := box_below (w.alloc (.cells #[.slice so sn sc, .slice ao an ac] 30)) (.cells #[.slice to tn tc, .slice bo bn bc] 30)
  have hs' := (hs.below k1 (Nat.le_refl _)).below k2 (Nat.le_refl _)
  have ha' := (ha.below k1 (Nat.le_refl _)).below k2 (Nat.le_refl _)
  have ht' := (ht.below k1 (Nat.le_refl _)).below k2 (Nat.le_refl _)
  have hb' := (hb.below k1 (Nat.le_refl _)).below k2 (Nat.le_refl _)
  clear hs ha ht hb k1 k2
  by_cases h1 : sn = tn
  · by_cases h2 : an = bn
    · subst h1 h2
      have h1' : ((sn : Int) != (sn : Int)) = false := by simp
      have h2' : ((an : Int) != (an : Int)) = false := by simp
      go_enter Tryz.func11, Tryz.ntmps11
      go_wp2
      go_loopw [5] (fun i wr => ∃ k : Nat, k ≤ sn ∧ i = .int .i64 (k : Nat) ∧ Hid (∀ j, j < k → nth s j = nth t j) ∧ Two w wr so sn sc ao an ac to sn tc bo an bc ∧ Rd wr so sn s ∧ Rd wr ao an a ∧ Rd wr to sn t ∧ Rd wr bo an b) (fun i _ => sn - (intOf i).toNat)
      case atStart => exact ⟨0, Nat.zero_le _, rfl, fun j hj => by omega, tw, hs', ha', ht', hb'⟩
      case round =>
        obtain ⟨k, hk, rfl, HZ, tk, ks, ka, kt, kb⟩ := hrel
        obtain ⟨c1, c2, c3, c4, bel⟩ := tk
        clear tw hs' ha' ht' hb'
        by_cases hlt : k < sn
        · obtain ⟨p, off, rfl, hp, hc⟩ := ks.cells (by omega)
          obtain ⟨p2, off2, rfl, hp2, hc2⟩ := kt.cells (by omega)
          have d1 := hc k hlt
          have d2 := hc2 k hlt
          clear hc hc2
          by_cases he : nth s k = nth t k
          · have hne : (nth s k != nth t k) = false := by simpa using he
            have HE : Hid (nth s k = nth t k) := he
            clear he
            go_wp2
            go_quiet (fail)
            go_wp2
            go_roundw
            case rel => exact ⟨k + 1, by omega, by go_num, fun j hj => by by_cases e : j = k; (· subst e; exact HE.out); exact HZ.out j (by omega), Two.drewN ⟨c1, c2, c3, c4, bel⟩ _, ks.drewN _, ka.drewN _, kt.drewN _, kb.drewN _⟩
            case measure => simp [intOf]; omega
          · have hne : (nth s k != nth t k) = true := by simpa using he
            have HE : Hid (nth s k ≠ nth t k) := he
            clear he
            go_wp2
            go_quiet (fail)
            go_wp2
            go_ret
            exact ⟨ret_bool (eqA_no1 (k := k) (by have := HS.out; omega) HE.out).symm, below_drewN bel _⟩
        · obtain rfl : k = sn := by omega
          go_wp2
          go_loopw [6] (fun i ws => ∃ j : Nat, j ≤ an ∧ i = .int .i64 (j : Nat) ∧ Hid (∀ l, l < j → nth a l = nth b l) ∧ Two w ws so k sc ao an ac to k tc bo an bc ∧ Rd ws ao an a ∧ Rd ws bo an b) (fun i _ => an - (intOf i).toNat)
          case atStart => exact ⟨0, Nat.zero_le _, rfl, fun j hj => by omega, ⟨c1, c2, c3, c4, bel⟩, ka, kb⟩
          case round =>
            clear ks ka kt kb c1 c2 c3 c4 bel
            obtain ⟨j, hj, rfl, HY, tk, ka, kb⟩ := hrel
            obtain ⟨c1, c2, c3, c4, bel⟩ := tk
            by_cases hlt2 : j < an
            · obtain ⟨p, off, rfl, hp, hc⟩ := ka.cells (by omega)
              obtain ⟨p2, off2, rfl, hp2, hc2⟩ := kb.cells (by omega)
              have d1 := hc j hlt2
              have d2 := hc2 j hlt2
              clear hc hc2
              by_cases he : nth a j = nth b j
              · have hne : (nth a j != nth b j) = false := by simpa using he
                have HE : Hid (nth a j = nth b j) := he
                clear he
                go_wp2
                go_quiet (fail)
                go_wp2
                go_roundw
                case rel => exact ⟨j + 1, by omega, by go_num, fun l hl => by by_cases e : l = j; (· subst e; exact HE.out); exact HY.out l (by omega), Two.drewN ⟨c1, c2, c3, c4, bel⟩ _, ka.drewN _, kb.drewN _⟩
                case measure => simp [intOf]; omega
              · have hne : (nth a j != nth b j) = true := by simpa using he
                have HE : Hid (nth a j ≠ nth b j) := he
                clear he
                go_wp2
                go_quiet (fail)
                go_wp2
                go_ret
                exact ⟨ret_bool (eqA_no2 (k := j) (by have := HA.out; omega) HE.out).symm, below_drewN bel _⟩
            · obtain rfl : j = an := by omega
              go_wp2
              go_ret
              exact ⟨ret_bool (eqA_yes (by rw [HS.out, HT.out]) (by rw [HS.out]; exact HZ.out) (by rw [HA.out, HB.out]) (by rw [HA.out]; exact HY.out)).symm, bel⟩
    · subst h1
      have h1' : ((sn : Int) != (sn : Int)) = false := by simp
      have h2' : ((an : Int) != (bn : Int)) = true := by simp; omega
      have H2 : Hid (an ≠ bn) := h2
      clear h2
      go_enter Tryz.func11, Tryz.ntmps11
      go_wp2
      go_ret
      exact ⟨ret_bool (eqA_len2 (by rw [HA.out, HB.out]; exact H2.out)).symm, tw.bel⟩
  · have h1' : ((sn : Int) != (tn : Int)) = true := by simp; omega
    have H1 : Hid (sn ≠ tn) := h1
    clear h1
    go_enter Tryz.func11, Tryz.ntmps11
    go_wp2
    go_ret
    exact ⟨ret_bool (eqA_len1 (by rw [HS.out, HT.out]; exact H1.out)).symm, tw.bel⟩

/-- The tally of an array that may be. -/
def tal (sh : List Int) : Int := if sh.length = 0 then 1 else nth sh 0

theorem tally_any (so ao : Option Addr) (sn sc an ac : Nat) (sh : List Int) (w : World) (h : Rd w so sn sh) :
    Calls Tryz.prog 79 #[.agg #[.slice so sn sc, .slice ao an ac]] w fun e w' => e = .returned (.int .i64 (tal sh)) ∧ Below w.heap.size w w' := by
  have hb := box_below w (.cells #[.slice so sn sc, .slice ao an ac] 30)
  have HL : Hid (sh.length = sn) := h.len
  have h' := h.below hb (Nat.le_refl _)
  by_cases h0 : sn = 0
  · subst h0
    go_enter Tryz.func79, Tryz.ntmps79
    go_wp2
    go_ret
    exact ⟨ret_int (by unfold tal; rw [if_pos HL.out]), hb⟩
  · have h0' : ((sn : Int) == 0) = false := by simp; omega
    obtain ⟨p, off, rfl, hp, hc⟩ := h'.cells (by omega)
    have c1 := hc 0 (by omega)
    rw [Nat.add_zero] at c1
    have hroom := h.room
    clear hc h h'
    go_enter Tryz.func79, Tryz.ntmps79
    go_wp2
    go_ret
    exact ⟨ret_int (by unfold tal; rw [if_neg (by rw [HL.out]; exact h0)]), hb⟩

set_option maxHeartbeats 1000000 in
theorem itemShape_any (so ao : Option Addr) (sn sc an ac : Nat) (sh : List Int) (w : World) (h : Rd w so sn sh) (hs : Sl so sn sc) :
    Calls Tryz.prog 81 #[.agg #[.slice so sn sc, .slice ao an ac]] w fun e w' => ∃ o c, e = .returned (.slice o (sn - 1) c) ∧ Rd w' o (sn - 1) (sh.drop 1) ∧ Sl o (sn - 1) c ∧ Below w.heap.size w w' := by
  have hb := box_below w (.cells #[.slice so sn sc, .slice ao an ac] 30)
  have HL : Hid (sh.length = sn) := h.len
  have h' := h.below hb (Nat.le_refl _)
  have hle := hs.le
  have hmx := hs.max
  have hroom := h.room
  by_cases h0 : sn = 0
  · subst h0
    go_enter Tryz.func81, Tryz.ntmps81
    go_wp2
    go_ret
    exact ⟨none, 0, rfl, h'.dropAll 1 (by omega), ⟨fun _ => ⟨rfl, rfl⟩, by omega, by omega⟩, hb⟩
  · have h0' : ((sn : Int) == 0) = false := by simp; omega
    obtain ⟨p, off, rfl, hp, hc⟩ := h'.cells (by omega)
    clear hc h
    by_cases hc1 : sc = 1
    · obtain rfl : sn = 1 := by omega
      subst hc1
      go_enter Tryz.func81, Tryz.ntmps81
      go_wp2
      go_ret
      exact ⟨_, _, rfl, h'.dropAll 1 (by omega), ⟨fun e => (by cases e), by omega, by omega⟩, hb⟩
    · go_enter Tryz.func81, Tryz.ntmps81
      go_wp2
      go_ret
      exact ⟨_, _, rfl, h'.dropAt 1 (by omega), ⟨fun e => (by cases e), by omega, by omega⟩, hb⟩

/-- The answer of Items. -/
def itm (sh at' : List Int) : Int := if mayA sh at' = 0 then tal sh else 0

theorem items_any (so ao : Option Addr) (sn sc an ac : Nat) (sh at' : List Int) (w : World) (h : Rd w so sn sh) (g : Rd w ao an at') :
    Calls Tryz.prog 89 #[.agg #[.slice so sn sc, .slice ao an ac]] w fun e w' => e = .returned (.int .i64 (itm sh at')) ∧ Below w.heap.size w w' := by
  have hb := box_below w (.cells #[.slice so sn sc, .slice ao an ac] 30)
  have h' := h.below hb (Nat.le_refl _)
  have g' := g.below hb (Nat.le_refl _)
  have hm := mayA_any so ao sn sc an ac sh at' _ h' g'
  have ht := fun W (x : Rd W so sn sh) => tally_any so ao sn sc an ac sh W x
  have b0 := allocNew w (.cells #[.slice so sn sc, .slice ao an ac] 30)
  have c0 : (w.alloc (.cells #[.slice so sn sc, .slice ao an ac] 30)).cell? ⟨w.heap.size, 0, none⟩ = some (.slice so sn sc) := (cell_of_row _ _ 0 _ _ (0, 0) b0).trans rfl
  have c1 : (w.alloc (.cells #[.slice so sn sc, .slice ao an ac] 30)).cell? ⟨w.heap.size, 1, none⟩ = some (.slice ao an ac) := (cell_of_row _ _ 1 _ _ (0, 0) b0).trans rfl
  have cc : ∀ W, Below (w.alloc (.cells #[.slice so sn sc, .slice ao an ac] 30)).heap.size (w.alloc (.cells #[.slice so sn sc, .slice ao an ac] 30)) W → W.cell? ⟨w.heap.size, 0, none⟩ = some (.slice so sn sc) ∧ W.cell? ⟨w.heap.size, 1, none⟩ = some (.slice ao an ac) ∧ Rd W so sn sh ∧ Below w.heap.size w W := fun W hW =>
    ⟨(hW.cell (p := ⟨w.heap.size, 0, none⟩) (by simp)).trans c0, (hW.cell (p := ⟨w.heap.size, 1, none⟩) (by simp)).trans c1, h'.below hW (Nat.le_refl _), hb.trans (hW.mono hb.size)⟩
  clear c0 c1 b0 h g h' g'
  by_cases h0 : mayA sh at' = 0
  · rw [h0] at hm
    have HI : Hid (itm sh at' = tal sh) := by show _ = _; unfold itm; rw [if_pos h0]
    clear h0
    go_enter Tryz.func89, Tryz.ntmps89
    go_wp2_with (first
      | (go_at_call 20; refine hm.mono ?_; rintro e w1 ⟨rfl, h1⟩; obtain ⟨c0, c1, r1, bel⟩ := cc _ h1; clear cc h1)
      | (go_at_call 79; refine (ht _ r1).mono ?_; rintro e w2 ⟨rfl, h2⟩))
    go_ret
    exact ⟨ret_int HI.out.symm, bel.trans (h2.mono bel.size)⟩
  · have h0' : (mayA sh at' != 0) = true := by simpa using h0
    have HI : Hid (itm sh at' = 0) := by show _ = _; unfold itm; rw [if_neg h0]
    clear h0
    go_enter Tryz.func89, Tryz.ntmps89
    go_wp2_with (go_at_call 20; refine hm.mono ?_; rintro e w1 ⟨rfl, h1⟩; obtain ⟨c0, c1, r1, bel⟩ := cc _ h1; clear cc h1)
    go_ret
    exact ⟨ret_int HI.out.symm, bel⟩
end Go.Proofs.YtmepcenbaohcoaaGreat

namespace Go.Proofs.YtmepcenbaohcoaaGreat

open Go.RowKit

set_option linter.unusedVariables false

theorem eq_same (W : World) (so ao to bo : Option Addr) (sn sc an ac tn tc bn bc : Nat) (s a : List Int) (hs : Rd W so sn s) (ha : Rd W ao an a) (ht : Rd W to tn s) (hb : Rd W bo bn a) :
    Calls Tryz.prog 11 #[.agg #[.slice so sn sc, .slice ao an ac], .agg #[.slice to tn tc, .slice bo bn bc]] W fun e w' => e = .returned (.bool true) ∧ Below W.heap.size W w' :=
  (eq_any so ao to bo sn sc an ac tn tc bn bc s a s a W hs ha ht hb).mono fun e w' ⟨h1, h2⟩ => ⟨by rw [h1, eqA_refl], h2⟩
end Go.Proofs.YtmepcenbaohcoaaGreat
