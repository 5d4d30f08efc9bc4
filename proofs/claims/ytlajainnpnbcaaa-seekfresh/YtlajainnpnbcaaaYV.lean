
/- Numbers of package seek: the items of what was sorted. -/

import Derived.Test.YtlajainnpnbcaaaYU

namespace Go.Proofs.Ytlajainnpnbcaaa

set_option linter.unusedVariables false

/-- Two orders of the same places are one. -/
theorem Pls.uniq {c : Int → Int → Int} {n : Nat} {ps qs : List Int} (hc : Cmp3 n c) (h : Pls c n ps) (g : Pls c n qs) : ps = qs := by
  have hl := h.len
  have gl := g.len
  have key : ∀ k, ∀ i, i < k → i < n → nth ps i = nth qs i := by
    intro k
    induction k with
    | zero => intro i hi; omega
    | succ k ih =>
      intro i hi hn
      rcases Nat.lt_or_ge i k with hk | hk
      · exact ih i hk hn
      · obtain rfl : i = k := by omega
        have a := h.inn i (by omega)
        have b := g.inn i (by omega)
        by_cases e : nth ps i = nth qs i
        · exact e
        · exfalso
          obtain ⟨j, hj, ej⟩ := g.all hc (q := (nth ps i).toNat) (by omega)
          obtain ⟨l, hl2, el⟩ := h.all hc (q := (nth qs i).toNat) (by omega)
          have ej' : nth qs j = nth ps i := by omega
          have el' : nth ps l = nth qs i := by omega
          have j1 : i < j := by
            rcases Nat.lt_trichotomy i j with x | x | x
            · exact x
            · subst x; exact absurd ej'.symm e
            · have := ih j x (by omega)
              have s := h.so j i (Nat.zero_le _) x hn
              rw [this, ej'] at s
              exact absurd (lx_irr hc a s) id
          have l1 : i < l := by
            rcases Nat.lt_trichotomy i l with x | x | x
            · exact x
            · subst x; exact absurd el' e
            · have := ih l x (by omega)
              have s := g.so l i (Nat.zero_le _) x hn
              rw [← this, el'] at s
              exact absurd (lx_irr hc b s) id
          have s1 := g.so i j (Nat.zero_le _) j1 hj
          have s2 := h.so i l (Nat.zero_le _) l1 hl2
          rw [ej'] at s1
          rw [el'] at s2
          exact lx_irr hc a (lx_trans hc a b a s2 s1)
  exact ext_nth (by omega) (fun k hk => key (k + 1) k (by omega) (by omega))
end Go.Proofs.Ytlajainnpnbcaaa
