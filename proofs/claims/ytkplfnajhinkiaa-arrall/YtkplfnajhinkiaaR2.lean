
/- Contracts of the document's own answers for arrays: Same, Items, Rest, At, Item, Fill. -/

import Derived.Test.YtkplfnajhinkiaaR1
import Derived.Test.YtkplfnajhinkiaaB5m


namespace Go.Proofs.Ytkplfnajhinkiaa

open Go.RowKit

set_option linter.unusedVariables false

theorem refSame_any (so ao to bo : Option Addr) (sn sc an ac tn tc bn bc : Nat) (s a t b : List Int) (w : World) (hs : Rd w so sn s) (ha : Rd w ao an a) (ht : Rd w to tn t) (hb : Rd w bo bn b) :
    Calls Try.prog 75 #[.agg #[.slice so sn sc, .slice ao an ac], .agg #[.slice to tn tc, .slice bo bn bc]] w fun e w' => e = .returned (.bool (eqA s a t b)) ∧ Below w.heap.size w w' := by
  have tw := two_boxes w so ao to bo sn sc an ac tn tc bn bc
  have k1 := box_below w (.cells #[.slice so sn sc, .slice ao an ac] 55)
  have k2 := box_below (w.alloc (.cells #[.slice so sn sc, .slice ao an ac] 55)) (.cells #[.slice to tn tc, .slice bo bn bc] 55)
  have cc := refCompare_any so ao to bo sn sc an ac tn tc bn bc s a t b _ ((hs.below k1 (Nat.le_refl _)).below k2 (Nat.le_refl _)) ((ha.below k1 (Nat.le_refl _)).below k2 (Nat.le_refl _)) ((ht.below k1 (Nat.le_refl _)).below k2 (Nat.le_refl _)) ((hb.below k1 (Nat.le_refl _)).below k2 (Nat.le_refl _))
  have e0 := cmpA_zero s a t b
  rw [← eqA_iff] at e0
  have HE : Hid (eqA s a t b = (cmpA s a t b == 0)) := by
    show _ = _
    cases h : eqA s a t b
    · rw [h] at e0; simp at e0; simp [e0]
    · rw [h] at e0; simp at e0; simp [e0]
  clear e0 k1 k2 hs ha ht hb
  generalize cmpA s a t b = x at *
  go_enter Try.func75, Try.ntmps75
  go_wp2_with (go_at_call 78; refine cc.mono ?_; rintro e w1 ⟨rfl, h1⟩; have bel := btw tw.bel h1 tw.bel.size)
  go_ret
  exact ⟨ret_bool HE.out.symm, bel⟩

theorem refItems_any (so ao : Option Addr) (sn sc an ac : Nat) (sh at' : List Int) (w : World) (h : Rd w so sn sh) (g : Rd w ao an at') :
    Calls Try.prog 76 #[.agg #[.slice so sn sc, .slice ao an ac]] w fun e w' => e = .returned (.int .i64 (itm sh at')) ∧ Below w.heap.size w w' := by
  have hb := box_below w (.cells #[.slice so sn sc, .slice ao an ac] 55)
  have b0 := bx_first (sc := sc) (ac := ac) h g
  have HL : Hid (sh.length = sn) := h.len
  have hroom := h.room
  have hm := refMayA_any so ao sn sc an ac sh at' _ b0.s b0.a
  by_cases h0 : mayA sh at' = 0
  · rw [h0] at hm
    have HI : Hid (itm sh at' = tal sh) := by show _ = _; unfold itm; rw [if_pos h0]
    clear h0 h g
    by_cases hz : sn = 0
    · subst hz
      go_enter Try.func76, Try.ntmps76
      go_wp2_with (go_at_call 70; refine hm.mono ?_; rintro e w1 ⟨rfl, h1⟩; have b1 := b0.below h1; have X1 := b1.c0; have X2 := b1.c1; have bel := btw hb h1 hb.size)
      go_ret
      exact ⟨ret_int (by rw [HI.out]; unfold tal; rw [if_pos HL.out]), bel⟩
    · have h0' : ((sn : Int) == 0) = false := by simp; omega
      go_enter Try.func76, Try.ntmps76
      go_wp2_with (go_at_call 70; refine hm.mono ?_; rintro e w1 ⟨rfl, h1⟩; have b1 := b0.below h1; have X1 := b1.c0; have X2 := b1.c1; have bel := btw hb h1 hb.size; obtain ⟨p, off, rfl, hp, hc⟩ := b1.s.cells (by omega); have c1 := hc 0 (by omega); rw [Nat.add_zero] at c1; clear hc)
      go_ret
      exact ⟨ret_int (by rw [HI.out]; unfold tal; rw [if_neg (by rw [HL.out]; exact hz)]), bel⟩
  · have h0' : (mayA sh at' != 0) = true := by simpa using h0
    have HI : Hid (itm sh at' = 0) := by show _ = _; unfold itm; rw [if_neg h0]
    clear h0
    go_enter Try.func76, Try.ntmps76
    go_wp2_with (go_at_call 70; refine hm.mono ?_; rintro e w1 ⟨rfl, h1⟩; have bel := btw hb h1 hb.size)
    go_ret
    exact ⟨ret_int HI.out.symm, bel⟩

set_option maxHeartbeats 1000000 in
theorem refRest_any (so ao : Option Addr) (sn sc an ac : Nat) (sh : List Int) (w : World) (h : Rd w so sn sh) (hs : Sl so sn sc) :
    Calls Try.prog 154 #[.agg #[.slice so sn sc, .slice ao an ac]] w fun e w' => ∃ o c, e = .returned (.slice o (sn - 1) c) ∧ Ft 3 w' w.heap.size o (sn - 1) c (sh.drop 1) ∧ Below w.heap.size w w' := by
  have hb := box_below w (.cells #[.slice so sn sc, .slice ao an ac] 55)
  have h' := h.below hb (Nat.le_refl _)
  have hle := hs.le
  have hmx := hs.max
  have hroom := h.room
  have fn := Ft.nil 3 (w.alloc (.cells #[.slice so sn sc, .slice ao an ac] 55)) (w.heap.size + 1)
  by_cases h0 : sn = 0
  · subst h0
    have hz : sh = [] := List.eq_nil_of_length_eq_zero h.len
    subst hz
    go_enter Try.func154, Try.ntmps154
    go_wp2
    go_ret
    exact ⟨none, 0, rfl, Ft.nil _ _ _, hb⟩
  · have h0' : ((sn : Int) == 0) = false := by simp; omega
    obtain ⟨p, off, rfl, hp, hc⟩ := h'.cells (by omega)
    clear hc h
    by_cases hc1 : sc = 1
    · obtain rfl : sn = 1 := by omega
      subst hc1
      have hd : Rd (w.alloc (.cells #[.slice (some ⟨p, off, none⟩) 1 1, .slice ao an ac] 55)) (some ⟨p, off, none⟩) 0 (sh.drop 1) := h'.dropAll 1 (by omega)
      go_enter Try.func154, Try.ntmps154
      go_wp2_with (at_builtin; refine wpList_joinT tyI rfl _ _ rfl (w.heap.size + 1) _ _ _ _ _ _ _ _ rfl rfl fn hd ⟨fun e => (by cases e), by omega, by omega⟩ (by omega) (by simp) ?_; intro bo bc w2 hf hb2; rw [Nat.zero_add, List.nil_append] at hf)
      go_ret
      exact ⟨bo, bc, rfl, hf.mono (by omega), hb.trans (hb2.mono (by omega))⟩
    · have hd : Rd (w.alloc (.cells #[.slice (some ⟨p, off, none⟩) sn sc, .slice ao an ac] 55)) (some ⟨p, off + 1, none⟩) (sn - 1) (sh.drop 1) := h'.dropAt 1 (by omega)
      go_enter Try.func154, Try.ntmps154
      go_wp2_with (at_builtin; refine wpList_joinT tyI rfl _ _ rfl (w.heap.size + 1) _ _ _ _ _ _ _ _ rfl rfl fn hd ⟨fun e => (by cases e), by omega, by omega⟩ (by omega) (by simp) ?_; intro bo bc w2 hf hb2; rw [Nat.zero_add, List.nil_append] at hf)
      go_ret
      exact ⟨bo, bc, rfl, hf.mono (by omega), hb.trans (hb2.mono (by omega))⟩
end Go.Proofs.Ytkplfnajhinkiaa
