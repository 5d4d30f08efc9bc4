
/- How much is handed in: the bound on the calls. -/

import Derived.Test.YtndjlbedfccnjaaHand2

namespace Go.Proofs.Ytndjlbedfccnjaa

open Go.RowKit

set_option linter.unusedVariables false

theorem over_any (wb : Nat) (x n : Int) (w : World) (hc : w.cell? ⟨wb, 0, none⟩ = some (.int .i64 x)) (hz : w.frozen? ⟨wb, 0, none⟩ = false) (h1 : 0 ≤ x) (h2 : x ≤ 4194304) (h3 : 0 ≤ n) (h4 : n ≤ 1000000000000000) :
    Calls Try.prog 5 #[.pointer (some ⟨wb, 0, none⟩), .int .i64 n] w fun e w' => e = .returned (.bool (decide (4194304 < x + 100 + n))) ∧ w' = w.setCell ⟨wb, 0, none⟩ (.int .i64 (x + 100 + n)) := by
  have hc1 : (w.setCell ⟨wb, 0, none⟩ (.int .i64 (x + 100 + n))).cell? ⟨wb, 0, none⟩ = some (.int .i64 (x + 100 + n)) := World.cell?_setCell_same' _ _ _ (by rw [hc]; rfl)
  go_enter Try.func5, Try.ntmps5
  go_wp2
  go_ret
  exact ⟨rfl, rfl⟩

/-- How much a call is handed, as far as it is counted. -/
def sizeK (zss : List (List Int)) (s : Nat) : Nat → Nat
  | 0 => s
  | k + 1 => sizeK zss s k + 10 + (row zss k).length

theorem sizeK_ge (zss : List (List Int)) (s : Nat) : ∀ k, s ≤ sizeK zss s k ∧ k ≤ sizeK zss s k ∧ ∀ j, j < k → (row zss j).length ≤ sizeK zss s k
  | 0 => ⟨Nat.le_refl _, Nat.zero_le _, fun j hj => by omega⟩
  | k + 1 => by
    obtain ⟨h1, h2, h3⟩ := sizeK_ge zss s k
    simp only [sizeK]
    refine ⟨by omega, by omega, fun j hj => ?_⟩
    by_cases e : j = k
    · subst e; omega
    · have := h3 j (by omega); omega

set_option maxHeartbeats 2000000 in
theorem opsize_any (K N : Int) (so to mo : Option Addr) (sn sc tn tc mn mc : Nat) (zs ys : List Int) (zss : List (List Int)) (w : World) (hs : Rd w so sn zs) (ht : Rd w to tn ys) (hm : Rs w mo mn zss) :
    Calls Try.prog 6 #[.agg #[.int .i64 K, .slice so sn sc, .slice to tn tc, .int .i64 N, .slice mo mn mc]] w fun e w' => ∃ z : Nat, e = .returned (.int .i64 (z : Nat)) ∧ Below w.heap.size w w' ∧ z ≤ 100000000000000 ∧ (z < 4194304 → sn ≤ z ∧ tn ≤ z ∧ mn ≤ z ∧ ∀ k, k < mn → (row zss k).length ≤ z) := by
  have hsr := hs.room
  have htr := ht.room
  have hmr := hm.room
  have HL : Hid (zss.length = mn) := hm.len
  go_enter Try.func6, Try.ntmps6
  go_wp2
  have cm : (w.alloc (.cells #[.int .i64 K, .slice so sn sc, .slice to tn tc, .int .i64 N, .slice mo mn mc] 37)).cell? ⟨w.heap.size, 4, none⟩ = some (.slice mo mn mc) := by
    have hb := World.alloc_heap_new w (.cells #[.int .i64 K, .slice so sn sc, .slice to tn tc, .int .i64 N, .slice mo mn mc] 37)
    exact (cell_of_row _ _ 4 _ 37 (0, 0) hb).trans rfl
  have hm1 := hm.below ((Below.refl _ w).alloc (Nat.le_refl _) (.cells #[.int .i64 K, .slice so sn sc, .slice to tn tc, .int .i64 N, .slice mo mn mc] 37)) (Nat.le_refl _)
  have hbw : Below w.heap.size w (w.alloc (.cells #[.int .i64 K, .slice so sn sc, .slice to tn tc, .int .i64 N, .slice mo mn mc] 37)) := (Below.refl _ w).alloc (Nat.le_refl _) _
  go_loop [3, 4] (fun v i => ∃ (k : Nat) (x : Int), k ≤ mn ∧ i = .int .i64 (k : Nat) ∧ v = .int .i64 x ∧ Hid (x = (sizeK zss (sn + tn) k : Nat)) ∧ 0 ≤ x ∧ x ≤ 40000000000000) (fun _ i => mn - (intOf i).toNat)
  case atStart => exact ⟨0, _, Nat.zero_le _, rfl, rfl, by show _ = _; simp [sizeK], by omega, by omega⟩
  case round =>
    obtain ⟨k, x, hk, rfl, rfl, HX, hx0, hbd⟩ := hrel
    by_cases hlt : k < mn
    · by_cases hsm : x < 4194304
      · obtain ⟨b, off, rfl, hb, hcs⟩ := hm1.cells (by omega)
        obtain ⟨A, L, C, c1, r1, s1⟩ := hcs k hlt
        have r1m := r1.room
        have hll : (row zss k).length = L := r1.len
        have HS : Hid (sizeK zss (sn + tn) (k + 1) = sizeK zss (sn + tn) k + 10 + L) := by show _ = _; simp only [sizeK]; rw [hll]
        clear hcs r1 s1 hll
        go_wp2
        go_round
        case rel => exact ⟨k + 1, _, by omega, by go_num, rfl, by show _ = _; rw [HS.out, HX.out]; omega, by omega, by omega⟩
        case measure => simp [intOf]; omega
      · go_wp2
        go_ret
        refine ⟨sizeK zss (sn + tn) k, ret_int HX.out, hbw, by have := HX.out; omega, fun h => absurd h (by have := HX.out; omega)⟩
    · obtain rfl : mn = k := by omega
      go_wp2
      go_ret
      obtain ⟨g1, g2, g3⟩ := sizeK_ge zss (sn + tn) mn
      exact ⟨sizeK zss (sn + tn) mn, ret_int HX.out, hbw, by have := HX.out; omega, fun h => ⟨by omega, by omega, by omega, g3⟩⟩
end Go.Proofs.Ytndjlbedfccnjaa
