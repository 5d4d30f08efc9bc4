
/- Contracts: whether an array may be; arrays held against one another. -/

import Derived.Test.YtlajainnpnbcaaaA1

import Derived.Test.YtlajainnpnbcaaaAgree

namespace Go.Proofs.Ytlajainnpnbcaaa

open Go.RowKit

set_option linter.unusedVariables false

/-- May an array be? -/
def mayA (sh at' : List Int) : Int := if mayF sh ≠ 0 then mayF sh else if (at'.length : Int) ≠ pr sh then 1 else 0
theorem mayA_sh {sh at' : List Int} (h : mayF sh ≠ 0) : mayA sh at' = mayF sh := if_pos h
theorem mayA_no {sh at' : List Int} (h : mayF sh = 0) (k : (at'.length : Int) ≠ pr sh) : mayA sh at' = 1 := by unfold mayA; rw [if_neg (by omega), if_pos k]
theorem mayA_ok {sh at' : List Int} (h : mayF sh = 0) (k : (at'.length : Int) = pr sh) : mayA sh at' = 0 := by unfold mayA; rw [if_neg (by omega), if_neg (by omega)]
theorem mayA_zero {sh at' : List Int} (h : mayA sh at' = 0) : mayF sh = 0 ∧ (at'.length : Int) = pr sh := by
  unfold mayA at h
  by_cases c : mayF sh = 0
  · rw [if_neg (by omega)] at h
    by_cases d : (at'.length : Int) = pr sh
    · exact ⟨c, d⟩
    · rw [if_pos d] at h; omega
  · rw [if_pos c] at h; omega

theorem box_below (w : World) (o : Obj) : Below w.heap.size w (w.alloc o) := (Below.refl _ w).alloc (Nat.le_refl _) o

set_option maxHeartbeats 1000000 in
theorem mayA_any (so ao : Option Addr) (sn sc an ac : Nat) (sh at' : List Int) (w : World) (h : Rd w so sn sh) (g : Rd w ao an at') :
    Calls Try.prog 19 #[.agg #[.slice so sn sc, .slice ao an ac]] w fun e w' => e = .returned (.int .i64 (mayA sh at')) ∧ Below w.heap.size w w' := by
  have groom := g.room
  have GL : Hid (at'.length = an) := g.len
  have hb := box_below w (.cells #[.slice so sn sc, .slice ao an ac] 36)
  have hz := size_any so sn sc sh _ (h.below hb (Nat.le_refl _))
  have bd := sizeF_bd sh
  by_cases h0 : mayF sh = 0
  · rw [h0] at hz
    have H0 : Hid (mayF sh = 0) := h0
    have HP : Hid (sizeF sh = pr sh) := sizeF_ok h0
    clear h0
    generalize sizeF sh = z at *
    by_cases hn : (an : Int) = z
    · have hn' : ((an : Int) != z) = false := by simpa using hn
      have HN : Hid ((an : Int) = z) := hn
      clear hn
      go_enter Try.func19, Try.ntmps19
      go_wp2_with (go_at_call 21; refine hz.mono ?_; rintro e w' ⟨rfl, rfl⟩)
      go_ret
      exact ⟨ret_int (mayA_ok H0.out (by rw [GL.out, HN.out, HP.out])).symm, hb⟩
    · have hn' : ((an : Int) != z) = true := by simpa using hn
      have HN : Hid ((an : Int) ≠ z) := hn
      clear hn
      go_enter Try.func19, Try.ntmps19
      go_wp2_with (go_at_call 21; refine hz.mono ?_; rintro e w' ⟨rfl, rfl⟩)
      go_ret
      exact ⟨ret_int (mayA_no H0.out (by rw [GL.out, ← HP.out]; exact HN.out)).symm, hb⟩
  · have h0' : (mayF sh != 0) = true := by simpa using h0
    have H0 : Hid (mayF sh ≠ 0) := h0
    clear h0
    go_enter Try.func19, Try.ntmps19
    go_wp2_with (go_at_call 21; refine hz.mono ?_; rintro e w' ⟨rfl, rfl⟩)
    go_ret
    exact ⟨ret_int (mayA_sh H0.out).symm, hb⟩

theorem allocNew (w : World) (o : Obj) : (w.alloc o).heap[w.heap.size]? = some o := by
  unfold World.alloc
  simp

/-- Two arrays, each in a box. -/
structure Two (w W : World) (so sn sc ao an ac to tn tc bo bn bc) : Prop where
  s0 : W.cell? ⟨w.heap.size, 0, none⟩ = some (.slice so sn sc)
  a0 : W.cell? ⟨w.heap.size, 1, none⟩ = some (.slice ao an ac)
  s1 : W.cell? ⟨w.heap.size + 1, 0, none⟩ = some (.slice to tn tc)
  a1 : W.cell? ⟨w.heap.size + 1, 1, none⟩ = some (.slice bo bn bc)
  bel : Below w.heap.size w W
theorem Two.drewN {w W : World} {so sn sc ao an ac to tn tc bo bn bc} (h : Two w W so sn sc ao an ac to tn tc bo bn bc) (q : Nat) : Two w (W.drewN q) so sn sc ao an ac to tn tc bo bn bc :=
  ⟨by simpa using h.s0, by simpa using h.a0, by simpa using h.s1, by simpa using h.a1, below_drewN h.bel q⟩
theorem Two.below {w W W' : World} {so sn sc ao an ac to tn tc bo bn bc} (h : Two w W so sn sc ao an ac to tn tc bo bn bc) (k : Below W.heap.size W W') : Two w W' so sn sc ao an ac to tn tc bo bn bc := by
  have l0 := World.block_lt_of_cell? W _ h.s0
  have l1 := World.block_lt_of_cell? W _ h.s1
  exact ⟨(k.cell (p := ⟨w.heap.size, 0, none⟩) l0).trans h.s0, (k.cell (p := ⟨w.heap.size, 1, none⟩) l0).trans h.a0, (k.cell (p := ⟨w.heap.size + 1, 0, none⟩) l1).trans h.s1, (k.cell (p := ⟨w.heap.size + 1, 1, none⟩) l1).trans h.a1, h.bel.trans (k.mono h.bel.size)⟩
theorem two_boxes (w : World) (so ao to bo : Option Addr) (sn sc an ac tn tc bn bc : Nat) :
    Two w ((w.alloc (.cells #[.slice so sn sc, .slice ao an ac] 36)).alloc (.cells #[.slice to tn tc, .slice bo bn bc] 36)) so sn sc ao an ac to tn tc bo bn bc := by
  have b0 := allocNew w (.cells #[.slice so sn sc, .slice ao an ac] 36)
  have b1 := allocNew (w.alloc (.cells #[.slice so sn sc, .slice ao an ac] 36)) (.cells #[.slice to tn tc, .slice bo bn bc] 36)
  have k := box_below (w.alloc (.cells #[.slice so sn sc, .slice ao an ac] 36)) (.cells #[.slice to tn tc, .slice bo bn bc] 36)
  rw [World.size_alloc] at b1
  refine ⟨(k.cell (p := ⟨w.heap.size, 0, none⟩) (by simp)).trans ((cell_of_row _ _ 0 _ _ (0, 0) b0).trans rfl), (k.cell (p := ⟨w.heap.size, 1, none⟩) (by simp)).trans ((cell_of_row _ _ 1 _ _ (0, 0) b0).trans rfl), (cell_of_row _ _ 0 _ _ (0, 0) b1).trans rfl, (cell_of_row _ _ 1 _ _ (0, 0) b1).trans rfl, (box_below w _).trans (k.mono (by simp))⟩

/-- Are two arrays the same? -/
def eqA (s a t b : List Int) : Bool := eqB s t && eqB a b
theorem eqA_sh {s a t b : List Int} (h : eqB s t = false) : eqA s a t b = false := by unfold eqA; rw [h]; rfl
theorem eqA_at {s a t b : List Int} (h : eqB s t = true) : eqA s a t b = eqB a b := by unfold eqA; rw [h]; rfl

set_option maxHeartbeats 1000000 in
theorem same_any (so ao to bo : Option Addr) (sn sc an ac tn tc bn bc : Nat) (s a t b : List Int) (w : World) (hs : Rd w so sn s) (ha : Rd w ao an a) (ht : Rd w to tn t) (hb : Rd w bo bn b) :
    Calls Try.prog 54 #[.agg #[.slice so sn sc, .slice ao an ac], .agg #[.slice to tn tc, .slice bo bn bc]] w fun e w' => e = .returned (.bool (eqA s a t b)) ∧ Below w.heap.size w w' := by
  have k1 := box_below w (.cells #[.slice so sn sc, .slice ao an ac] 36)
  have k2 := box_below (w.alloc (.cells #[.slice so sn sc, .slice ao an ac] 36)) (.cells #[.slice to tn tc, .slice bo bn bc] 36)
  have tw := two_boxes w so ao to bo sn sc an ac tn tc bn bc
  have hs' := (hs.below k1 (Nat.le_refl _)).below k2 (Nat.le_refl _)
  have ha' := (ha.below k1 (Nat.le_refl _)).below k2 (Nat.le_refl _)
  have ht' := (ht.below k1 (Nat.le_refl _)).below k2 (Nat.le_refl _)
  have hb' := (hb.below k1 (Nat.le_refl _)).below k2 (Nat.le_refl _)
  have e1 := slicesEqual_any so to sn tn sc tc s t _ hs' ht'
  have e2 := fun W (x : Rd W ao an a) (y : Rd W bo bn b) => slicesEqual8_any ao bo an bn ac bc a b W x y
  clear hs ha ht hb k1 k2 hs' ht'
  by_cases h : eqB s t = true
  · rw [h] at e1
    rw [eqA_at h]
    clear h
    go_enter Try.func54, Try.ntmps54
    go_wp2_with (first
      | (go_at_call 67; refine e1.mono ?_; rintro e w1 ⟨rfl, q, hw⟩; have tw1 := tw.drewN q; have ha1 := ha'.drewN q; have hb1 := hb'.drewN q; rw [← hw] at tw1 ha1 hb1; clear hw; obtain ⟨_, t2, _, t4, bel⟩ := tw1)
      | (go_at_call 68; refine (e2 _ ha1 hb1).mono ?_; rintro e w2 ⟨rfl, q2, hw2⟩; have bel2 := below_drewN bel q2; rw [← hw2] at bel2; clear hw2))
    go_ret
    exact ⟨rfl, bel2⟩
  · have h' : eqB s t = false := by simpa using h
    rw [h'] at e1
    rw [eqA_sh h']
    clear h h'
    go_enter Try.func54, Try.ntmps54
    go_wp2_with (go_at_call 67; refine e1.mono ?_; rintro e w1 ⟨rfl, q, hw⟩; have tw1 := tw.drewN q; rw [← hw] at tw1; clear hw; obtain ⟨_, t2, _, t4, bel⟩ := tw1)
    go_ret
    exact ⟨rfl, bel⟩

set_option maxHeartbeats 1000000 in
theorem cmpA_any (so ao to bo : Option Addr) (sn sc an ac tn tc bn bc : Nat) (s a t b : List Int) (w : World) (hs : Rd w so sn s) (ha : Rd w ao an a) (ht : Rd w to tn t) (hb : Rd w bo bn b) :
    Calls Try.prog 62 #[.agg #[.slice so sn sc, .slice ao an ac], .agg #[.slice to tn tc, .slice bo bn bc]] w fun e w' => e = .returned (.int .i64 (cmpA s a t b)) ∧ Below w.heap.size w w' := by
  have HS : Hid (s.length = sn) := hs.len
  have HT : Hid (t.length = tn) := ht.len
  have k1 := box_below w (.cells #[.slice so sn sc, .slice ao an ac] 36)
  have k2 := box_below (w.alloc (.cells #[.slice so sn sc, .slice ao an ac] 36)) (.cells #[.slice to tn tc, .slice bo bn bc] 36)
  have tw := (two_boxes w so ao to bo sn sc an ac tn tc bn bc).bel
  have hs' := (hs.below k1 (Nat.le_refl _)).below k2 (Nat.le_refl _)
  have ha' := (ha.below k1 (Nat.le_refl _)).below k2 (Nat.le_refl _)
  have ht' := (ht.below k1 (Nat.le_refl _)).below k2 (Nat.le_refl _)
  have hb' := (hb.below k1 (Nat.le_refl _)).below k2 (Nat.le_refl _)
  have e0 := fun W => cmp_any (sn : Int) (tn : Int) W
  have e1 := cmps_any so to sn tn sc tc s t _ hs' ht'
  have e2 := cmps8_any ao bo an bn ac bc a b _ ha' hb'
  clear hs ha ht hb k1 k2 hs' ht' ha' hb'
  have HC : Hid (cmpA s a t b = lex (cmpI sn tn) (lex (cmpL s t) (cmpL a b))) := by show _ = _; unfold cmpA; rw [HS.out, HT.out]
  generalize cmpI (sn : Int) (tn : Int) = x at *
  generalize cmpL s t = y at *
  generalize cmpL a b = z at *
  by_cases hx : x = 0
  · have hx' : (x != 0) = false := by simpa using hx
    have HX : Hid (x = 0) := hx
    clear hx
    by_cases hy : y = 0
    · have hy' : (y != 0) = false := by simpa using hy
      have HY : Hid (y = 0) := hy
      clear hy
      go_enter Try.func62, Try.ntmps62
      go_wp2_with (first
        | (go_at_call 69; refine (e0 _).mono ?_; rintro e w' ⟨rfl, hw⟩; rw [hw]; clear hw w')
        | (go_at_call 70; refine e1.mono ?_; rintro e w' ⟨rfl, hw⟩; rw [hw]; clear hw w')
        | (go_at_call 71; refine e2.mono ?_; rintro e w' ⟨rfl, hw⟩; rw [hw]; clear hw w'))
      go_ret
      exact ⟨ret_int (by rw [HC.out]; unfold lex; rw [if_pos HX.out, if_pos HY.out]), tw⟩
    · have hy' : (y != 0) = true := by simpa using hy
      have HY : Hid (y ≠ 0) := hy
      clear hy
      go_enter Try.func62, Try.ntmps62
      go_wp2_with (first
        | (go_at_call 69; refine (e0 _).mono ?_; rintro e w' ⟨rfl, hw⟩; rw [hw]; clear hw w')
        | (go_at_call 70; refine e1.mono ?_; rintro e w' ⟨rfl, hw⟩; rw [hw]; clear hw w'))
      go_ret
      exact ⟨ret_int (by rw [HC.out]; unfold lex; rw [if_pos HX.out, if_neg HY.out]), tw⟩
  · have hx' : (x != 0) = true := by simpa using hx
    have HX : Hid (x ≠ 0) := hx
    clear hx
    go_enter Try.func62, Try.ntmps62
    go_wp2_with (go_at_call 69; refine (e0 _).mono ?_; rintro e w' ⟨rfl, hw⟩; rw [hw]; clear hw w')
    go_ret
    exact ⟨ret_int (by rw [HC.out]; unfold lex; rw [if_neg HX.out]), tw⟩
end Go.Proofs.Ytlajainnpnbcaaa
