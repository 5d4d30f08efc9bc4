
/- Lists of arrays that are read; two that are the same are told to be. -/

import Derived.Test.YtelcagfaflpolaaGreatC10
import Derived.Deep.RegionHeld3


namespace Go.Proofs.YtelcagfaflpolaaGreat

open Go.RowKit

set_option linter.unusedVariables false

/-- A slice of n arrays reads as these. -/
structure As (w : World) (ao : Option Addr) (n : Nat) (xs : Nat → List Int × List Int) : Prop where
  room : n ≤ 1000000000000
  cells : 0 < n → ∃ b off, ao = some ⟨b, off, none⟩ ∧ b < w.heap.size ∧ ∀ k, k < n → ∃ so sn sc to tn tc, w.cell? ⟨b, off + k * 2, none⟩ = some (.slice so sn sc) ∧ w.cell? ⟨b, off + k * 2 + 1, none⟩ = some (.slice to tn tc) ∧ Rd w so sn (xs k).1 ∧ Sl so sn sc ∧ Rd w to tn (xs k).2 ∧ Sl to tn tc
theorem As.below {B : Nat} {w w' : World} {ao : Option Addr} {n : Nat} {xs : Nat → List Int × List Int} (h : As w ao n xs) (hb : Below B w w') (hB : w.heap.size ≤ B) : As w' ao n xs := by
  refine ⟨h.room, fun h0 => ?_⟩
  obtain ⟨b, off, e, hl, hc⟩ := h.cells h0
  refine ⟨b, off, e, Nat.lt_of_lt_of_le hl hb.size, fun k hk => ?_⟩
  obtain ⟨so, sn, sc, to, tn, tc, a1, a2, a3, a4, a5, a6⟩ := hc k hk
  exact ⟨so, sn, sc, to, tn, tc, (hb.cell (p := ⟨b, off + k * 2, none⟩) (Nat.lt_of_lt_of_le hl hB)).trans a1, (hb.cell (p := ⟨b, off + k * 2 + 1, none⟩) (Nat.lt_of_lt_of_le hl hB)).trans a2, a3.below hb hB, a4, a5.below hb hB, a6⟩
theorem Ac.as {W : World} {g m : Nat} {xs : Nat → List Int × List Int} (h : Ac W g m m xs) (hm : m ≤ 4096) : As W (some ⟨g, 0, none⟩) m xs := by
  refine ⟨by omega, fun _ => ⟨g, 0, rfl, h.lt, fun k hk => ?_⟩⟩
  obtain ⟨cur, h1, h2, h3⟩ := h.row
  obtain ⟨so, sn, sc, to, tn, tc, a1, a2, a3, a4⟩ := h3 k hk
  exact ⟨so, sn, sc, to, tn, tc, (cell_of_row W g _ _ _ (0, 0) h1).trans (by simpa using a1), (cell_of_row W g _ _ _ (0, 0) h1).trans (by simpa using a2), a3.rd, a3.sl, a4.rd, a4.sl⟩

end Go.Proofs.YtelcagfaflpolaaGreat
