
/- Lists of arrays that are read; two that are the same are told to be. -/

import Derived.Test.YtjllmfahmlfljaaC10
import Derived.Deep.RegionHeld3


namespace Go.Proofs.Ytjllmfahmlfljaa

open Go.RowKit

set_option linter.unusedVariables false

/-- A slice of n arrays reads as these. -/
structure As (w : World) (ao : Option Addr) (n : Nat) (xs : Nat → List Int × List Int) : Prop where
  room : n ≤ 1000000000000
  cells : 0 < n → ∃ b off, ao = some ⟨b, off, none⟩ ∧ b < w.heap.size ∧ ∀ k, k < n → ∃ so sn sc to tn tc, w.cell? ⟨b, off + k * 2, none⟩ = some (.slice so sn sc) ∧ w.cell? ⟨b, off + k * 2 + 1, none⟩ = some (.slice to tn tc) ∧ Rd w so sn (xs k).1 ∧ Sl so sn sc ∧ Rd w to tn (xs k).2 ∧ Sl to tn tc
theorem As.below {B : Nat} {w w' : World} {ao : Option Addr} {n : Nat} {xs : Nat → List Int × List Int} (h : As w ao n xs) (hb : Below B w w') (hB : w.heap.size ≤ B) : As w' ao n xs := by
  refine ⟨h.room, fun h0 => ?_⟩
  obtain ⟨b, off, e, hl, hc⟩ := h.cells h0
  refine ⟨b, off, e, Nat.lt_of_lt_of_le hl hb.size, fun k hk => ?_⟩
  obtain ⟨so, sn, sc, to, tn, tc, a1, a2, a3, a4, a5, a6⟩ := hc k hk
  exact ⟨so, sn, sc, to, tn, tc, (hb.cell (p := ⟨b, off + k * 2, none⟩) (Nat.lt_of_lt_of_le hl hB)).trans a1, (hb.cell (p := ⟨b, off + k * 2 + 1, none⟩) (Nat.lt_of_lt_of_le hl hB)).trans a2, a3.below hb hB, a4, a5.below hb hB, a6⟩
theorem Ac.as {W : World} {g m : Nat} {xs : Nat → List Int × List Int} (h : Ac W g m m xs) (hm : m ≤ 4096) : As W (some ⟨g, 0, none⟩) m xs := by
  refine ⟨by omega, fun _ => ⟨g, 0, rfl, h.lt, fun k hk => ?_⟩⟩
  obtain ⟨cur, h1, h2, h3⟩ := h.row
  obtain ⟨so, sn, sc, to, tn, tc, a1, a2, a3, a4⟩ := h3 k hk
  exact ⟨so, sn, sc, to, tn, tc, (cell_of_row W g _ _ _ (0, 0) h1).trans (by simpa using a1), (cell_of_row W g _ _ _ (0, 0) h1).trans (by simpa using a2), a3.rd, a3.sl, a4.rd, a4.sl⟩

set_option maxHeartbeats 2000000 in
theorem eqAll_true (ao bo : Option Addr) (n ca cb : Nat) (xs ys : Nat → List Int × List Int) (w : World) (h : As w ao n xs) (g : As w bo n ys) (he : ∀ k, k < n → xs k = ys k) :
    Calls Try.prog 18 #[.slice ao n ca, .slice bo n cb] w fun e w' => e = .returned (.bool true) ∧ Below w.heap.size w w' := by
  have hroom := h.room
  go_enter Try.func18, Try.ntmps18
  go_wp2
  go_loopw [5] (fun i wr => ∃ k : Nat, k ≤ n ∧ i = .int .i64 (k : Nat) ∧ Below w.heap.size w wr) (fun i _ => n - (intOf i).toNat)
  case atStart => exact ⟨0, Nat.zero_le _, rfl, Below.refl _ _⟩
  case round =>
    obtain ⟨k, hk, rfl, hb⟩ := hrel
    by_cases hlt : k < n
    · have h1 := h.below hb (Nat.le_refl _)
      have g1 := g.below hb (Nat.le_refl _)
      obtain ⟨b, off, rfl, _, hc⟩ := h1.cells (by omega)
      obtain ⟨b2, off2, rfl, _, gc⟩ := g1.cells (by omega)
      obtain ⟨so, sn, sc, to, tn, tc, a1, a2, a3, a4, a5, a6⟩ := hc k hlt
      obtain ⟨so', sn', sc', to', tn', tc', c1, c2, c3, c4, c5, c6⟩ := gc k hlt
      have ek := he k hlt
      have eq : ∀ V, Below wr.heap.size wr V → Calls Try.prog 14 #[.agg #[.slice so sn sc, .slice to tn tc], .agg #[.slice so' sn' sc', .slice to' tn' tc']] V fun e w' => e = .returned (.bool true) ∧ Below wr.heap.size wr w' := fun V hV =>
        (eq4_any so to so' to' sn sc tn tc sn' sc' tn' tc' _ _ _ _ V (a3.below hV (Nat.le_refl _)) (a5.below hV (Nat.le_refl _)) (c3.below hV (Nat.le_refl _)) (c5.below hV (Nat.le_refl _))).mono fun e w' ⟨e1, e2⟩ => ⟨by rw [e1, ek]; rw [show eqA (ys k).1 (ys k).2 (ys k).1 (ys k).2 = true by unfold eqA; rw [eqB_refl, eqB_refl]; rfl], hV.trans (e2.mono hV.size)⟩
      have lb := World.block_lt_of_cell? wr _ a1
      have lb2 := World.block_lt_of_cell? wr _ c1
      have al : ∀ V, Below wr.heap.size wr V → V.cell? ⟨b, off + k * 2, none⟩ = some (.slice so sn sc) ∧ V.cell? ⟨b, off + k * 2 + 1, none⟩ = some (.slice to tn tc) ∧ V.cell? ⟨b2, off2 + k * 2, none⟩ = some (.slice so' sn' sc') ∧ V.cell? ⟨b2, off2 + k * 2 + 1, none⟩ = some (.slice to' tn' tc') ∧ Below wr.heap.size wr V := fun V hV =>
        ⟨(hV.cell (p := ⟨b, off + k * 2, none⟩) lb).trans a1, (hV.cell (p := ⟨b, off + k * 2 + 1, none⟩) lb).trans a2, (hV.cell (p := ⟨b2, off2 + k * 2, none⟩) lb2).trans c1, (hV.cell (p := ⟨b2, off2 + k * 2 + 1, none⟩) lb2).trans c2, hV⟩
      have t1 : decide ((k : Int) < (n : Int)) = true := by simp; omega
      have b1 : (k : Int) < (n : Int) := by omega
      have w1 : IntKind.i64.wrap ((k : Int) + 1) = (k : Int) + 1 := wrapIn _ (by omega)
      clear hc gc h1 g1 a3 a4 a5 a6 c3 c4 c5 c6 ek
      go_wp2
      go_region_held3 (fun V => V.cell? ⟨b, off + k * 2, none⟩ = some (.slice so sn sc) ∧ V.cell? ⟨b, off + k * 2 + 1, none⟩ = some (.slice to tn tc) ∧ V.cell? ⟨b2, off2 + k * 2, none⟩ = some (.slice so' sn' sc') ∧ V.cell? ⟨b2, off2 + k * 2 + 1, none⟩ = some (.slice to' tn' tc') ∧ Below wr.heap.size wr V) (first | exact al _ (by assumption) | exact al _ (Below.refl _ _).drew)
        (first
          | (go_at_call 14; (with_reducible refine (eq _ (‹_ ∧ _ ∧ _ ∧ _ ∧ Below wr.heap.size wr _›).2.2.2.2).mono ?_); rintro e w5 ⟨rfl, b5⟩))
      go_wp2
      go_roundw
      case rel => exact ⟨k + 1, by omega, by go_num, hb.trans (b5.mono hb.size)⟩
      case measure => simp [intOf]; omega
    · obtain rfl : k = n := by omega
      have t1 : decide ((k : Int) < (k : Int)) = false := by simp
      go_wp2
      go_ret
      exact ⟨rfl, hb⟩
end Go.Proofs.Ytjllmfahmlfljaa
