
/- TermTurned: any term, any way. -/

import Derived.Test.YtiahilelcppfgaaGreatOE0

import Derived.Test.YtiahilelcppfgaaGreatOE1

import Derived.Test.YtiahilelcppfgaaGreatOE2

import Derived.Test.YtiahilelcppfgaaGreatOE3

import Derived.Test.YtiahilelcppfgaaGreatOE4

import Derived.Test.YtiahilelcppfgaaGreatOE5

namespace Go.Proofs.YtiahilelcppfgaaGreat

open Go.RowKit

set_option linter.unusedVariables false

set_option linter.unusedSimpArgs false in
set_option maxRecDepth 100000 in
set_option maxHeartbeats 4000000 in
theorem turned_no (d : Nat) (x : Tr (d + 1)) (k n : Int) (t : ByteArray) (so ao ko : Option Addr) (sn sc an ac L kc : Nat) (hw nn : Int) (w : World) (h : Tv w (d + 1) x [.int .i64 k, .string t, .int .i64 n, .slice so sn sc, .slice ao an ac, .slice ko L kc]) (hm : clsN k = 0 ∨ mayT (d + 1) x (clsN k) ≠ 0) :
    Calls Tryz.prog 6 #[.agg #[.int .i64 k, .string t, .int .i64 n, .slice so sn sc, .slice ao an ac, .slice ko L kc], .int .u8 hw, .int .i64 nn] w fun e w' => e = .returned (.bool true) ∧ Below w.heap.size w w' := by
  have k0 := box_below w (.cells #[.int .i64 k, .string t, .int .i64 n, .slice so sn sc, .slice ao an ac, .slice ko L kc] 31)
  have r0 := allocNew w (.cells #[.int .i64 k, .string t, .int .i64 n, .slice so sn sc, .slice ao an ac, .slice ko L kc] 31)
  have hbg := begun13_any (w.alloc (.cells #[.int .i64 k, .string t, .int .i64 n, .slice so sn sc, .slice ao an ac, .slice ko L kc] 31))
  have hcl := fun W => class_any k n t (.slice so sn sc) (.slice ao an ac) (.slice ko L kc) W
  by_cases h0 : clsN k = 0
  · rw [h0] at hcl
    clear h0 hm h
    go_enter Tryz.func6, Tryz.ntmps6
    go_wp2_with (first
      | (go_at_call 9; (with_reducible refine hbg.mono ?_); rintro e w1 ⟨rfl, b1⟩; have B1 := k0.trans (b1.mono k0.size); have R1 := (b1.block w.heap.size (by simp)).trans r0; obtain ⟨q0, q1, q2, q3, q4, q5⟩ := box6 R1)
      | (go_at_call 11; (with_reducible refine (hcl _).mono ?_); rintro e w2 ⟨rfl, b2⟩))
    go_ret
    exact ⟨rfl, B1.trans (b2.mono B1.size)⟩
  · have hmy := fun V (b : Below w.heap.size w V) => tmay_any (d + 1) x _ _ _ _ _ _ (clsN k) V (Tv.below b (Nat.le_refl _) _ _ _ h)
    have hm1 : mayT (d + 1) x (clsN k) ≠ 0 := hm.resolve_left h0
    have e0 : (clsN k == 0) = false := by simp [h0]
    have e1 : (mayT (d + 1) x (clsN k) == 0) = false := by simp [hm1]
    have e2 : (mayT (d + 1) x (clsN k) != 0) = true := by simp [hm1]
    generalize mayT (d + 1) x (clsN k) = F at *
    generalize clsN k = CK at *
    clear hm h0 h
    go_enter Tryz.func6, Tryz.ntmps6
    go_wp2_with (first
      | (go_at_call 9; (with_reducible refine hbg.mono ?_); rintro e w1 ⟨rfl, b1⟩; have B1 := k0.trans (b1.mono k0.size); have R1 := (b1.block w.heap.size (by simp)).trans r0; obtain ⟨q0, q1, q2, q3, q4, q5⟩ := box6 R1)
      | (go_at_call 11; (with_reducible refine (hcl _).mono ?_); rintro e w2 ⟨rfl, b2⟩; have B2 := B1.trans (b2.mono B1.size); have R2 := (b2.block w.heap.size (Array.getElem?_eq_some_iff.1 R1).1).trans R1; obtain ⟨p0, p1, p2, p3, p4, p5⟩ := box6 R2)
      | (go_at_call 12; (with_reducible refine (hmy _ B2).mono ?_); rintro e w3 ⟨rfl, b3⟩))
    go_ret
    exact ⟨rfl, B2.trans (b3.mono B2.size)⟩
theorem turned_any : ∀ (d : Nat) (x : Tr d) (c0 c1 c2 c3 c4 c5 : Value) (hw nn : Int) (w : World), Tv w d x [c0, c1, c2, c3, c4, c5] → 0 ≤ hw → -9223372036854775808 ≤ nn ∧ nn ≤ 9223372036854775807 → Calls Tryz.prog 6 #[.agg #[c0, c1, c2, c3, c4, c5], .int .u8 hw, .int .i64 nn] w fun e w' => e = .returned (.bool true) ∧ Below w.heap.size w w'
  | 0, _, _, _, _, _, _, _, _, _, _, h, _, _ => h.elim
  | d + 1, x, c0, c1, c2, c3, c4, c5, hw, nn, w, h, hw0, hn => by
    have h0 := h
    obtain ⟨⟨so, sn, sc, ao, an, ac, ko, kc, ev, h1, h2, h3, h4, h5, h6⟩, _, _, ht⟩ := h
    injection ev with ev0 ev
    injection ev with ev1 ev
    injection ev with ev2 ev
    injection ev with ev3 ev
    injection ev with ev4 ev
    injection ev with ev5 ev
    subst ev0 ev1 ev2 ev3 ev4 ev5
    by_cases hm : clsN x.nd.k = 0 ∨ mayT (d + 1) x (clsN x.nd.k) ≠ 0
    · exact turned_no d x _ _ _ so ao ko sn sc an ac x.ks.length kc hw nn w h0 hm
    · have hm0 : mayT (d + 1) x (clsN x.nd.k) = 0 := by
        by_cases q : mayT (d + 1) x (clsN x.nd.k) = 0
        · exact q
        · exact absurd (.inr q) hm
      have e : Int.tmod hw 6 = hw % 6 := Int.tmod_eq_emod_of_nonneg hw0
      have hc : Int.tmod hw 6 = 0 ∨ Int.tmod hw 6 = 1 ∨ Int.tmod hw 6 = 2 ∨ Int.tmod hw 6 = 3 ∨ Int.tmod hw 6 = 4 ∨ Int.tmod hw 6 = 5 := by omega
      rcases hc with hc | hc | hc | hc | hc | hc
      · exact turned0 d x _ _ _ so ao ko sn sc an ac x.ks.length kc hw nn w h0 rfl rfl rfl h1.len h3.len rfl hm0 hn hc
      · exact turned1 d x _ _ _ so ao ko sn sc an ac x.ks.length kc hw nn w h0 rfl rfl rfl h1.len h3.len rfl hm0 hn hc
      · exact turned2 d x _ _ _ so ao ko sn sc an ac x.ks.length kc hw nn w h0 rfl rfl rfl h1.len h3.len rfl hm0 hn hc
      · exact turned3 d x _ _ _ so ao ko sn sc an ac x.ks.length kc hw nn w h0 rfl rfl rfl h1.len h3.len rfl hm0 hn hc
      · exact turned4 d x _ _ _ so ao ko sn sc an ac x.ks.length kc hw nn w h0 rfl rfl rfl h1.len h3.len rfl hm0 hn hc
      · exact turned5 d x _ _ _ so ao ko sn sc an ac x.ks.length kc hw nn w h0 rfl rfl rfl h1.len h3.len rfl hm0 hn hc
end Go.Proofs.YtiahilelcppfgaaGreat
