
/- The hand of layer 4: is it as it was filled? -/

import Derived.Test.YtppcfpiihkaopaaGreatDoorHB

namespace Go.Proofs.YtppcfpiihkaopaaGreatDoor

open Go.RowKit

set_option linter.unusedVariables false

theorem PRow.less {W : World} {g c m : Nat} {f : Nat → Int} (h : PRow W g c m f) (f2 : Nat → Int) : PRow W g c 0 f2 := by
  obtain ⟨cur, h1, h2, _⟩ := h.blk
  exact ⟨⟨cur, h1, h2, fun k hk => absurd hk (Nat.not_lt_zero k)⟩, h.le⟩
theorem PRowA.less {W : World} {g c m : Nat} {f : Nat → Int} (h : PRowA W g c m f) (f2 : Nat → Int) : PRowA W g c 0 f2 := by
  obtain ⟨cur, h1, h2, _⟩ := h.blk
  exact ⟨⟨cur, h1, h2, fun k hk => absurd hk (Nat.not_lt_zero k)⟩, h.le⟩
theorem PRow.belowB {W W' : World} {g c m : Nat} {f : Nat → Int} (h : PRow W g c m f) (k : Below W.heap.size W W') : PRow W' g c m f := by
  obtain ⟨cur, h1, h2, h3⟩ := h.blk
  exact ⟨⟨cur, (k.block g (Array.getElem?_eq_some_iff.1 h1).1).trans h1, h2, h3⟩, h.le⟩
theorem PRowA.belowB {W W' : World} {g c m : Nat} {f : Nat → Int} (h : PRowA W g c m f) (k : Below W.heap.size W W') : PRowA W' g c m f := by
  obtain ⟨cur, h1, h2, h3⟩ := h.blk
  exact ⟨⟨cur, (k.block g (Array.getElem?_eq_some_iff.1 h1).1).trans h1, h2, h3⟩, h.le⟩

/-- A hand that may be filled anew. -/
structure Free (w w' : World) (B hb : Nat) (g c g2 c2 : Nat) : Prop where
  hd : Hd w' B ⟨hb, 0, none⟩ (some ⟨g, 0, none⟩) c
  hdA : HdA w' B ⟨hb, 1, none⟩ (some ⟨g2, 0, none⟩) c2
  bel : Below B w w'
  kin : Kin w w' hb

set_option maxHeartbeats 16000000 in
set_option maxRecDepth 20000 in
theorem keptA_any (hb B g c g2 c2 : Nat) (so lo : Option Addr) (sn sc n cap : Nat) (S A : List Int) (w : World) (hB : B ≤ w.heap.size) (hg : B ≤ g ∧ B ≤ g2 ∧ B ≤ hb) (hne : g ≠ hb ∧ g2 ≠ hb)
    (hr : PRow w g c c (marked S sn)) (hr2 : PRowA w g2 c2 c2 (markedA A n)) (hsn : sn ≤ c) (hn : n ≤ c2)
    (hc : w.cell? ⟨hb, 0, none⟩ = some (.slice (some ⟨g, 0, none⟩) c c) ∧ w.frozen? ⟨hb, 0, none⟩ = false) (hc2 : w.cell? ⟨hb, 1, none⟩ = some (.slice (some ⟨g2, 0, none⟩) c2 c2) ∧ w.frozen? ⟨hb, 1, none⟩ = false)
    (hS : Rd w so sn S) (hA : Rd w lo n A) (lbS : 0 < sn → ∀ b off, so = some ⟨b, off, none⟩ → b < B) (lbA : 0 < n → ∀ b off, lo = some ⟨b, off, none⟩ → b < B) :
    Calls Tryz.prog 15 #[.pointer (some ⟨hb, 0, none⟩), .agg #[.slice so sn sc, .slice lo n cap]] w fun e w' => e = .returned (.bool true) ∧ Free w w' B hb g c g2 c2 := by
  have hgg : g ≠ g2 := row_ne hr hr2
  have hbw : hb < w.heap.size := World.block_lt_of_cell? w _ hc.1
  have k0 := box_below w (.cells #[.slice so sn sc, .slice lo n cap] 36)
  have z0 := allocNew w (.cells #[.slice so sn sc, .slice lo n cap] 36)
  have hs0 : (w.alloc (.cells #[.slice so sn sc, .slice lo n cap] 36)).heap.size = w.heap.size + 1 := World.size_alloc _ _
  have hle := hr2.le
  have hroom := hA.room
  have c1 := (k0.cell (p := ⟨hb, 0, none⟩) hbw).trans hc.1
  have c2' := (k0.cell (p := ⟨hb, 1, none⟩) hbw).trans hc2.1
  have f1 := (World.frozen?_of_block (a := ⟨hb, 0, none⟩) (k0.block hb hbw)).trans hc.2
  have f2 := (World.frozen?_of_block (a := ⟨hb, 1, none⟩) (k0.block hb hbw)).trans hc2.2
  have r1 := hr.belowB k0
  have r2 := hr2.belowB k0
  have S1 := hS.below k0 (Nat.le_refl _)
  have A1 := hA.below k0 (Nat.le_refl _)
  have KB : Below B w (w.alloc (.cells #[.slice so sn sc, .slice lo n cap] 36)) := k0.mono hB
  have hglt := hr.lt
  have hg2lt := hr2.lt
  have k0' := k0
  clear hc hc2 hr hr2 hS hA k0
  obtain ⟨y0, y1, y2, y3⟩ := box2 z0
  have z0' := z0
  have HC2 : Hid ((w.alloc (.cells #[.slice so sn sc, .slice lo n cap] 36)).cell? ⟨hb, 1, none⟩ = some (.slice (some ⟨g2, 0, none⟩) c2 c2)) := c2'
  have hmark := fun i w h => markA_any i w h
  go_enter Tryz.func15, Tryz.ntmps15
  go_upto_region 1 with fail
  generalize w.alloc (.cells #[.slice so sn sc, .slice lo n cap] 36) = W1 at *
  clear z0
  obtain ⟨y0, y1, y2, y3⟩ := box2 z0'
  have KD : Below B w W1.drew := KB.drew
  have HIK := kept_any hb 0 g c so sn sc S W1.drew c1 hne.1 (r1.belowB ((Below.refl _ _).drew)) hsn (S1.below ((Below.refl W1.heap.size W1).drew) (Nat.le_refl _)) (fun h0 b off e => by have := lbS h0 b off e; omega)
  go_region_held3 (fun V => V.cell? ⟨w.heap.size, 0, none⟩ = some (.slice so sn sc)) (first | assumption | exact y0)
    (first
      | (go_at_call 33; (with_reducible refine HIK.mono ?_); rintro e W2 ⟨rfl, hp2, hg2⟩; have SW2 : W2.cell? ⟨w.heap.size, 0, none⟩ = some (.slice so sn sc) := hg2.cell y0 (some_ne (by show w.heap.size ≠ g; omega))))
  have hs0 : W1.drew.heap.size = w.heap.size + 1 := hs0
  have c3 : W2.cell? ⟨hb, 1, none⟩ = some (.slice (some ⟨g2, 0, none⟩) c2 c2) := hg2.cell HC2.out (some_ne (Ne.symm hne.1))
  have hs2 : w.heap.size + 1 ≤ W2.heap.size := by have := hg2.size; omega
  have r22 : PRowA W2 g2 c2 c2 (markedA A n) := (r2.belowB ((Below.refl _ _).drew)).kept hg2 (some_ne (Ne.symm hgg))
  have HR22 : Hid (PRowA W2 g2 c2 c2 (markedA A n)) := r22
  have z2 := (hg2.block w.heap.size (by omega) (some_ne (by omega))).trans z0'
  have A2 := (A1.below ((Below.refl W1.heap.size W1).drew) (Nat.le_refl _)).kept0 hg2 (fun h0 b off e => some_ne (by have := lbA h0 b off e; omega))
  have c12 : W2.cell? ⟨hb, 0, none⟩ = some (.slice (some ⟨g, 0, none⟩) c c) := hg2.cell c1 (some_ne (Ne.symm hne.1))
  have f12 : W2.frozen? ⟨hb, 0, none⟩ = false := (World.frozen?_of_block (a := ⟨hb, 0, none⟩) (hg2.block hb (by omega) (some_ne (Ne.symm hne.1)))).trans f1
  have f22 : W2.frozen? ⟨hb, 1, none⟩ = false := (World.frozen?_of_block (a := ⟨hb, 1, none⟩) (hg2.block hb (by omega) (some_ne (Ne.symm hne.1)))).trans f2
  have KB2 : Below B w W2 := KD.grown hg2 (by have := KD.size; omega) (fun k e => by have := Option.some.inj e; omega)
  have KX : Below w.heap.size w W1.drew := k0'.drew
  have r1d : PRow W1.drew g c c (marked S sn) := r1.belowB ((Below.refl _ _).drew)
  have HKN : Hid (Kin w W2 hb) := (Kin.of KX).trans ⟨hg2.size, fun j cs t hj t1 t2 hne => hg2.block j (Array.getElem?_eq_some_iff.1 hj).1 (some_ne (r1d.no hj t1))⟩
  clear KX r1d k0'
  clear KD HIK c1 f1 f2 r1 r2 S1 A1 KB hg2 y0 y1 y2 y3
  go_wp2
  go_loopw [5, 6] (fun ok i wr => ∃ k : Nat, k ≤ c2 ∧ ok = .bool true ∧ i = .int .i64 (k : Nat) ∧ PRowA wr g2 c2 c2 (fun j => if j < k then -99 else markedA A n j) ∧ W2.grownBy wr (some g2)) (fun _ i _ => c2 - (intOf i).toNat)
  case atStart => exact ⟨0, Nat.zero_le _, rfl, rfl, by simpa using r22, ⟨rfl, rfl, rfl, Nat.le_refl _, fun _ _ _ => rfl⟩⟩
  case round =>
    obtain ⟨k, hk, rfl, rfl, hpk, hgk⟩ := hrel
    have cp : wr.cell? ⟨hb, 1, none⟩ = some (.slice (some ⟨g2, 0, none⟩) c2 c2) := hgk.cell c3 (some_ne (Ne.symm hne.2))
    obtain ⟨y0, y1, y2, y3⟩ := box2 ((hgk.block w.heap.size (by omega) (some_ne (by omega))).trans z2)
    by_cases hlt : k < c2
    · have cv := hpk.cell hlt
      have zv := hpk.frozen k
      simp only [Nat.lt_irrefl, if_false] at cv
      have s1 : PRowA (wr.setCell ⟨g2, k, none⟩ (.int .i64 (-99))) g2 c2 c2 (fun j => if j < k + 1 then -99 else markedA A n j) := prowA_put k hpk hlt (-99) (by rw [if_pos (by omega)]) (fun j hj => by
        by_cases c : j < k
        · rw [if_pos c, if_pos (by omega)]
        · rw [if_neg c, if_neg (by omega)])
      have s2 := grown_transH hgk (grown_set wr g2 k (.int .i64 (-99)))
      by_cases hkn : k < n
      · have hrw := A2.kept0 hgk (fun h0 b off e => some_ne (by have := lbA h0 b off e; omega))
        obtain ⟨b, off, rfl, hb', hcs⟩ := hrw.cells (by omega)
        have c1 := hcs k hkn
        have em : markedA A n k = nth A k := by unfold markedA; rw [if_pos hkn]
        rw [em] at cv
        clear hcs em
        go_wp2_with (go_at_call 27; refine (hmark k _ (by omega)).mono ?_; rintro e w' ⟨rfl, hw⟩; rw [hw]; clear hw w')
        go_roundw
        case rel => exact ⟨k + 1, by omega, rfl, by go_num, s1, s2⟩
        case measure => simp [intOf]; omega
      · have em : markedA A n k = mkA k := by unfold markedA; rw [if_neg hkn]
        rw [em] at cv
        clear em
        go_wp2_with (go_at_call 27; refine (hmark k _ (by omega)).mono ?_; rintro e w' ⟨rfl, hw⟩; rw [hw]; clear hw w')
        go_roundw
        case rel => exact ⟨k + 1, by omega, rfl, by go_num, s1, s2⟩
        case measure => simp [intOf]; omega
    · obtain rfl : c2 = k := by omega
      have F0 : Hd wr B ⟨hb, 0, none⟩ (some ⟨g, 0, none⟩) c := ⟨hgk.cell c12 (some_ne (Ne.symm hne.2)), (World.frozen?_of_block (a := ⟨hb, 0, none⟩) (hgk.block hb (by omega) (some_ne (Ne.symm hne.2)))).trans f12, hg.2.2, .inr ⟨g, rfl, hg.1, hne.1, (hp2.kept hgk (some_ne hgg)).less _⟩⟩
      have F1 : HdA wr B ⟨hb, 1, none⟩ (some ⟨g2, 0, none⟩) c2 := ⟨cp, (World.frozen?_of_block (a := ⟨hb, 1, none⟩) (hgk.block hb (by omega) (some_ne (Ne.symm hne.2)))).trans f22, hg.2.2, .inr ⟨g2, rfl, hg.2.1, hne.2, hpk.less _⟩⟩
      have F2 : Below B w wr := KB2.grown hgk (by omega) (fun k e => by have := Option.some.inj e; omega)
      have F3 : Kin w wr hb := HKN.out.trans ⟨hgk.size, fun j cs t hj t1 t2 hne => hgk.block j (Array.getElem?_eq_some_iff.1 hj).1 (some_ne (HR22.out.no hj t2))⟩
      go_wp2
      go_ret
      exact ⟨rfl, F0, F1, F2, F3⟩
end Go.Proofs.YtppcfpiihkaopaaGreatDoor
