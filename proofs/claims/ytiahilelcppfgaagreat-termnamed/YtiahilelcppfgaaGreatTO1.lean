
/- Terms of one depth told as terms of a greater one. -/

import Derived.Test.YtiahilelcppfgaaGreatTT

namespace Go.Proofs.YtiahilelcppfgaaGreat

open Go.RowKit

set_option linter.unusedVariables false

/-- The same term, of one level more at most. -/
def lft : (d : Nat) → Tr d → Tr (d + 1)
  | 0, x => nomatch x
  | d + 1, x => Tr.mk x.nd (x.ks.map (lft d))
theorem Kq.map {α β : Type} {P : α → List Value → Prop} {Q : β → List Value → Prop} {W : World} {ko : Option Addr} {ks : List α} (f : α → β) (h : Kq P W ko ks) (hP : ∀ y v, P y v → Q (f y) v) : Kq Q W ko (ks.map f) := by
  refine ⟨by rw [List.length_map]; exact h.room, fun h0 => ?_⟩
  rw [List.length_map] at h0
  obtain ⟨b, off, e, hl, hc⟩ := h.cells h0
  refine ⟨b, off, e, hl, fun i y hy => ?_⟩
  rw [List.getElem?_map] at hy
  cases hk : ks[i]? with
  | none => rw [hk] at hy; cases hy
  | some z =>
    rw [hk] at hy
    injection hy with hy
    subst hy
    obtain ⟨c0, c1, c2, c3, c4, c5, hp, q⟩ := hc i z hk
    exact ⟨c0, c1, c2, c3, c4, c5, hP _ _ hp, q⟩
theorem Tv.lft {W : World} : ∀ {d : Nat} {x : Tr d} {v : List Value}, Tv W d x v → Tv W (d + 1) (lft d x) v
  | 0, _, _, h => h.elim
  | d + 1, x, v, h => by
    obtain ⟨⟨so, sn, sc, ao, an, ac, ko, kc, e, h1, h2, h3, h4, h5, h6⟩, hk, hn, ht⟩ := h
    have hl : (x.ks.map (Go.Proofs.YtiahilelcppfgaaGreat.lft d)).length = x.ks.length := List.length_map _
    refine ⟨⟨so, sn, sc, ao, an, ac, ko, kc, ?_, h1, h2, h3, h4, h5.map _ (fun y v hy => Tv.lft hy), ?_⟩, hk, hn, ht⟩
    · show v = [.int .i64 x.nd.k, .string x.nd.t, .int .i64 x.nd.n, .slice so sn sc, .slice ao an ac, .slice ko (x.ks.map (Go.Proofs.YtiahilelcppfgaaGreat.lft d)).length kc]
      rw [hl]; exact e
    · show Sl ko (x.ks.map (Go.Proofs.YtiahilelcppfgaaGreat.lft d)).length kc
      rw [hl]; exact h6
end Go.Proofs.YtiahilelcppfgaaGreat
