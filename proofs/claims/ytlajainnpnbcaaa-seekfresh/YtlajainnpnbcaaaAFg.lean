
/- What the law asks; arrays from a block on. -/

import Derived.Test.YtlajainnpnbcaaaSHd

namespace Go.Proofs.Ytlajainnpnbcaaa

open Go.RowKit

set_option linter.unusedVariables false

/-- An array of one's own, from block B on. -/
def ArB (W : World) (B : Nat) (x : Value × Value) (z : List Int × List Int) : Prop := ∃ so sn sc ao an ac, x = (.slice so sn sc, .slice ao an ac) ∧ Ft 3 W B so sn sc z.1 ∧ Ft 2 W B ao an ac z.2
theorem ArB.arw {W : World} {B : Nat} {x : Value × Value} {z : List Int × List Int} (h : ArB W B x z) : Arw W x z := by
  obtain ⟨so, sn, sc, ao, an, ac, rfl, h1, h2⟩ := h
  exact ⟨_, _, _, _, _, _, rfl, h1.mono (Nat.zero_le _), h2.mono (Nat.zero_le _)⟩
theorem ArB.inn {W : World} {B : Nat} {x : Value × Value} {z : List Int × List Int} (h : ArB W B x z) : Inn (fun g => B ≤ g ∧ g < W.heap.size) x := by
  obtain ⟨so, sn, sc, ao, an, ac, rfl, h1, h2⟩ := h
  exact ⟨fun g hg => h1.own.lt g hg, fun g hg => h2.own.lt g hg⟩
theorem ArB.mono {W : World} {B B' : Nat} {x : Value × Value} {z : List Int × List Int} (h : ArB W B x z) (hB : B' ≤ B) : ArB W B' x z := by
  obtain ⟨so, sn, sc, ao, an, ac, rfl, h1, h2⟩ := h
  exact ⟨_, _, _, _, _, _, rfl, h1.mono hB, h2.mono hB⟩
theorem ArB.chg {S : Nat → Prop} {W W' : World} {B : Nat} {x : Value × Value} {z : List Int × List Int} (h : ArB W B x z) (k : Chg S W W') (hS : Inn (fun g => ¬ S g) x) : ArB W' B x z := by
  obtain ⟨so, sn, sc, ao, an, ac, rfl, h1, h2⟩ := h
  exact ⟨_, _, _, _, _, _, rfl, h1.chg k hS.1, h2.chg k hS.2⟩
theorem ArB.below {W W' : World} {B : Nat} {x : Value × Value} {z : List Int × List Int} (h : ArB W B x z) (k : Below W.heap.size W W') : ArB W' B x z := h.chg (Chg.of_below k (Nat.le_refl _) (fun _ => False)) ⟨fun _ _ e => e, fun _ _ e => e⟩
/-- Memories that lie one behind the other are apart. -/
theorem apt_of {P Q : Nat → Prop} {x y : Value × Value} (hx : Inn P x) (hy : Inn Q y) (h : ∀ g, P g → ¬ Q g) : Apt x y :=
  ⟨fun g h1 h2 => h g (hx.1 g h1) (hy.1 g h2), fun g h1 h2 => h g (hx.2 g h1) (hy.2 g h2)⟩
def shb (sn an : Nat) : Bool := decide (sn ≤ 5000) && decide (an ≤ 5000)
set_option maxHeartbeats 2000000 in
theorem short_any (so ao : Option Addr) (sn sc an ac : Nat) (w : World) : Calls Try.prog 5 #[.agg #[.slice so sn sc, .slice ao an ac]] w fun e w' => e = .returned (.bool (shb sn an)) ∧ Below w.heap.size w w' := by
  have k0 := box_below w (.cells #[.slice so sn sc, .slice ao an ac] 36)
  obtain ⟨b0, b1, _, _⟩ := box2 (allocNew w (.cells #[.slice so sn sc, .slice ao an ac] 36))
  have HB : Hid (shb sn an = (decide (sn ≤ 5000) && decide (an ≤ 5000))) := rfl
  by_cases h1 : sn ≤ 5000
  · by_cases h2 : an ≤ 5000
    · have t1 : decide ((sn : Int) ≤ 5000) = true := by simp; omega
      have t2 : decide ((an : Int) ≤ 5000) = true := by simp; omega
      go_enter Try.func5, Try.ntmps5
      go_wp2
      go_ret
      exact ⟨by rw [HB.out]; simp [h1, h2], k0⟩
    · have t1 : decide ((sn : Int) ≤ 5000) = true := by simp; omega
      have t2 : decide ((an : Int) ≤ 5000) = false := by simp; omega
      go_enter Try.func5, Try.ntmps5
      go_wp2
      go_ret
      exact ⟨by rw [HB.out]; simp [h1, h2], k0⟩
  · have t1 : decide ((sn : Int) ≤ 5000) = false := by simp; omega
    go_enter Try.func5, Try.ntmps5
    go_wp2
    go_ret
    exact ⟨by rw [HB.out]; simp [h1], k0⟩
theorem own_arr (x : Value × Value) (z : List Int × List Int) (w : World) (h : ∃ so sn sc ao an ac, x = (.slice so sn sc, .slice ao an ac) ∧ Rd w so sn z.1 ∧ Sl so sn sc ∧ Rd w ao an z.2 ∧ Sl ao an ac) :
    Calls Try.prog 6 #[.agg #[x.1, x.2]] w fun e w' => ∃ v, e = .returned (.agg #[v.1, v.2]) ∧ ArB w' w.heap.size v z ∧ Below w.heap.size w w' := by
  obtain ⟨so, sn, sc, ao, an, ac, rfl, h1, h2, h3, h4⟩ := h
  refine (own3_any so ao sn sc an ac z.1 z.2 w h1 h2 h3 h4).mono ?_
  rintro e w' ⟨o1, c1, o2, c2, rfl, g1, g2, k⟩
  exact ⟨(.slice o1 sn c1, .slice o2 an c2), rfl, ⟨_, _, _, _, _, _, rfl, g1, g2⟩, k⟩
theorem Arw.reads {w : World} {x : Value × Value} {z : List Int × List Int} (h : Arw w x z) : ∃ so sn sc ao an ac, x = (.slice so sn sc, .slice ao an ac) ∧ Rd w so sn z.1 ∧ Sl so sn sc ∧ Rd w ao an z.2 ∧ Sl ao an ac := by
  obtain ⟨so, sn, sc, ao, an, ac, rfl, h1, h2⟩ := h
  exact ⟨_, _, _, _, _, _, rfl, h1.rd, h1.sl, h2.rd, h2.sl⟩
theorem rd_eq {W : World} {x y : Value × Value} {z : List Int × List Int} (hx : ∃ so sn sc ao an ac, x = (.slice so sn sc, .slice ao an ac) ∧ Rd W so sn z.1 ∧ Sl so sn sc ∧ Rd W ao an z.2 ∧ Sl ao an ac) (hy : ∃ so sn sc ao an ac, y = (.slice so sn sc, .slice ao an ac) ∧ Rd W so sn z.1 ∧ Sl so sn sc ∧ Rd W ao an z.2 ∧ Sl ao an ac) : Calls Try.prog 10 #[.agg #[x.1, x.2], .agg #[y.1, y.2]] W fun e w' => e = .returned (.bool true) ∧ Below W.heap.size W w' := by
  obtain ⟨so, sn, sc, ao, an, ac, rfl, h1, _, h2, _⟩ := hx
  obtain ⟨uo, tn, tc, bo, bn, bc, rfl, h3, _, h4, _⟩ := hy
  exact eq_same W so ao uo bo sn sc an ac tn tc bn bc z.1 z.2 h1 h2 h3 h4
end Go.Proofs.Ytlajainnpnbcaaa
