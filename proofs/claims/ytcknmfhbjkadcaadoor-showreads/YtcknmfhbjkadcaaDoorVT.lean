
/- ShowReads: the law itself. -/

import Derived.Test.YtcknmfhbjkadcaaDoorVR

namespace Go.Proofs.YtcknmfhbjkadcaaDoor

open Go.RowKit

set_option linter.unusedVariables false

set_option maxHeartbeats 4000000 in
theorem reads_any (s : List UInt8) (w : World) (hs : s.length ≤ 140737488351232) (T : Tb w) :
    Calls Tryd.prog 4 #[.string ⟨s.toArray⟩] w fun e w' => e = .returned (.bool true) ∧ Below w.heap.size w w' := by
  have cG := begun10_any w T
  have cR := fun V (k : Below w.heap.size w V) => read_any s V (by omega) (T.below k)
  have hso := rd_sound s
  unfold AnsV at cR
  generalize rdAll s = v at *
  obtain ⟨S, A, p, E⟩ := v
  rcases hso with ⟨h1, h2, h3, h4⟩ | ⟨h1, h2, h3, h4, h5⟩
  · have h1' : E = 0 := h1
    have h2' : p = 0 := h2
    have h3' : fl S A = s := h3
    have h4' : mayA S A = 0 := h4
    subst h1' h2'
    clear h1 h2 h3 h4
    have cF := fun V o1 n1 c1 o2 n2 c2 (k : Below w.heap.size w V) h g => flat_ok o1 o2 n1 c1 n2 c2 S A V h g h4' (T.below k)
    rw [h3'] at cF
    have cM := fun V o1 n1 c1 o2 n2 c2 h g => mayA_any o1 o2 n1 c1 n2 c2 S A V h g
    rw [h4'] at cM
    clear h3' h4'
    go_enter Tryd.func4, Tryd.ntmps4
    go_wp2_with (first
      | (go_at_call 5; (with_reducible refine cG.mono ?_); rintro e w1 ⟨rfl, k1⟩)
      | (go_at_call 9; (with_reducible refine (cR w1 k1).mono ?_); rintro e w2 ⟨o1, n1, c1, o2, n2, c2, rfl, f1, f2, k2⟩; have K2 := k1.trans (k2.mono k1.size); have kb := box_below w2 (.cells #[.slice o1 n1 c1, .slice o2 n2 c2] 25); have K3 := K2.trans (kb.mono K2.size); have x3 := allocNew w2 (.cells #[.slice o1 n1 c1, .slice o2 n2 c2] 25); obtain ⟨a0, a1, _, _⟩ := box2 x3; have g1 := f1.below kb (Nat.le_refl _); have g2 := f2.below kb (Nat.le_refl _))
      | (go_at_call 6; (with_reducible refine (cF _ o1 n1 c1 o2 n2 c2 K3 g1.rd g2.rd).mono ?_); rintro e w4 ⟨rfl, k4⟩; have K4 := K3.trans (k4.mono K3.size); obtain ⟨b0, b1, _, _⟩ := box2 ((k4.block w2.heap.size (Array.getElem?_eq_some_iff.1 x3).1).trans x3))
      | (go_at_call 8; (with_reducible refine (cM w4 o1 n1 c1 o2 n2 c2 (g1.below k4 (Nat.le_refl _)).rd (g2.below k4 (Nat.le_refl _)).rd).mono ?_); rintro e w5 ⟨rfl, k5⟩; have K5 := K4.trans (k5.mono K4.size)))
    go_ret
    exact ⟨rfl, K5⟩
  · have h1' : E ≠ 0 := h1
    have h2' : 0 ≤ p := h2
    have h3' : p ≤ (s.length : Int) := h3
    have h4' : S = [] := h4
    have h5' : A = [] := h5
    subst h4' h5'
    clear h1 h2 h3 h4 h5
    have te : (E == 0) = false := by simpa using h1'
    have t1 : decide (0 ≤ p) = true := by simp [h2']
    have t2 : decide (p ≤ (s.length : Int)) = true := by simp [h3']
    clear h1'
    go_enter Tryd.func4, Tryd.ntmps4
    go_wp2_with (first
      | (go_at_call 5; (with_reducible refine cG.mono ?_); rintro e w1 ⟨rfl, k1⟩)
      | (go_at_call 9; (with_reducible refine (cR w1 k1).mono ?_); rintro e w2 ⟨o1, n1, c1, o2, n2, c2, rfl, f1, f2, k2⟩; obtain rfl : n1 = 0 := f1.rd.len.symm; obtain rfl : n2 = 0 := f2.rd.len.symm; have K2 := k1.trans (k2.mono k1.size); have kb := box_below w2 (.cells #[.slice o1 0 c1, .slice o2 0 c2] 25); have K3 := K2.trans (kb.mono K2.size); obtain ⟨a0, a1, _, _⟩ := box2 (allocNew w2 (.cells #[.slice o1 0 c1, .slice o2 0 c2] 25))))
    go_ret
    exact ⟨rfl, K3⟩
end Go.Proofs.YtcknmfhbjkadcaaDoor
