/- The walk of the law Names: it answers true where strconv's table of powers of ten holds what its text lays. -/
import Derived.Test.YtaajliecbchklaaDoorText
import Derived.Handy
import Derived.Deep.QuietTactic
import Derived.BigQuiet
import Derived.Great.BuildSlice
import Derived.Great.Walk
import Derived.WalkSmall
namespace Go.Proofs.YtaajliecbchklaaDoor
open Go.RowKit
set_option linter.unusedVariables false

def nums : List Int := [0, 1, 2, 3, 4, 5, 10, 11, 12, 13, 14, 15, 16, 17, 18, 20, 21, 22, 30, 31, 32, 33, 34, 35, 36, 37, 39, 8, 4096, 4096, 256, 2048, 320, 32, 64, 16, 32, 64, 4294967296, 4294967296, 4096, 1048576, 256, 512, 16, 256, 64, 9223372036854775807, (-9223372036854775808), 1, 2, 3, 4, 5, 10, 11, 12, 13, 14, 20, 21, 22, 23, 24, 25, 26, 27, 28, 29, 30, 31, 32, 33, 34, 35, 36, 37, 38, 39, 40, 41, 42, 43, 44, 45, 46, 1, 2, 3, 1, 2, 3, 4, 5, 6, 7, 8, 9, 10, 11, 12, 13, 14, 15, 16, 17, 18, 19, 20, 21, 22, 23, 24, 25, 26, 27, 28, 29, 30, 31, 32, 33, 34, 35, 36, 37, 38, 39, 40, 41, 42, 43, 43, 16384, 131072, 16384, 512, 1, 2, 3, 4, 5, 6, 7, 8, 9, 10, 11, 12, 13, 14, 15, 16, 17, 18, 19, 20, 21, 22, 23]
def errs : List Int := [0, 1, 2, 3, 4, 5, 10, 11, 12, 13, 14, 15, 16, 17, 18, 20, 21, 22, 30, 31, 32, 33, 34, 35, 36, 37, 39]

theorem num_any (n : Int) (w : World) :
    Calls Tryd.prog 4 #[.int .i64 n] w fun e w' => e = .returned (.int .i64 n) ∧ w' = w := by
  go_enter Tryd.func4, Tryd.ntmps4
  go_wp2
  go_ret
  exact ⟨rfl, rfl⟩

theorem new_cell (w : World) (l : List Int) (t : TypeId) (k : Nat) (h : k < l.length) : (w.alloc (.cells (l.map (Value.int .i64)).toArray t)).cell? ⟨w.heap.size, k, none⟩ = some (.int .i64 (l.getD k 0)) := by
  have e : (l.map (Value.int .i64)).toArray[k]? = some (.int .i64 (l.getD k 0)) := by
    simp [List.getD, h]
  simpa [go_sem] using e
theorem old_cell (w : World) (o : Obj) (b k : Nat) (h : b < w.heap.size) : (w.alloc o).cell? ⟨b, k, none⟩ = w.cell? ⟨b, k, none⟩ :=
  ((Below.refl w.heap.size w).alloc (Nat.le_refl _) o).cell (p := ⟨b, k, none⟩) h

theorem drawn {B : Nat} {a w : World} (h : Below B a w) (n : Nat) : Below B a (w.drewN n) := h.trans ⟨rfl, rfl, rfl, Nat.le_refl _, fun _ _ => rfl⟩
theorem t14_list : t14.toList = [101, 114, 114, 111, 114, 32, 49, 52] := by decide +kernel
theorem t0_list : t0.toList = [101, 114, 114, 111, 114, 32, 48] := by decide +kernel
theorem t3_list : t3.toList = [101, 114, 114, 111, 114, 32, 45, 51] := by decide +kernel
theorem nums_len : nums.length = 160 := by decide +kernel
theorem errs_len : errs.length = 27 := by decide +kernel
theorem errs_fin : ∀ i : Fin 27, ∀ j : Fin 27, j.val < i.val → (errs.getD i.val 0 == errs.getD j.val 0) = false := by decide +kernel
theorem errs_apart {i j : Nat} (hi : i < 27) (hj : j < i) : (errs.getD i 0 == errs.getD j 0) = false := errs_fin ⟨i, hi⟩ ⟨j, by omega⟩ hj
theorem gTab : Tryd.prog.globalNamed "internal/strconv.uint64pow10" = some 0 := by kernel_rfl
theorem tab_lt {w : World} (htab : Lib.TabIs Tryd.prog w "internal/strconv.uint64pow10" .u64 Lib.pow10Tab) : 0 < w.heap.size := by
  unfold Lib.TabIs World.var? at htab
  simp only [gTab, Option.bind_some] at htab
  apply Classical.byContradiction
  intro hn
  rw [Array.getElem?_eq_none (by omega)] at htab
  simp at htab
theorem tab_later {w w' : World} (htab : Lib.TabIs Tryd.prog w "internal/strconv.uint64pow10" .u64 Lib.pow10Tab) (hb : Below w.heap.size w w') : Lib.TabIs Tryd.prog w' "internal/strconv.uint64pow10" .u64 Lib.pow10Tab :=
  var?_below hb gTab (tab_lt htab) htab

set_option maxRecDepth 20000 in
theorem names_walk (w : World) (htab : Lib.TabIs Tryd.prog w "internal/strconv.uint64pow10" .u64 Lib.pow10Tab) :
    Calls Tryd.prog 3 #[] w fun e w' => e = .returned (.bool true) ∧ Below w.heap.size w w' := by
  go_enter Tryd.func3, Tryd.ntmps3
  go_wp2_with (refine wpList_buildFlat rfl 22 3 160 _ rfl .i64 nums (by kernel_rfl) (by kernel_rfl) (by kernel_rfl) (by kernel_rfl) (by decide) (by decide) (by kernel_rfl) ?_)
  obtain ⟨W2, hW2⟩ : ∃ W2, W2 = (w.alloc (Obj.cells (List.map (Value.int IntKind.i64) nums).toArray 3)).alloc (Obj.cells (List.map (Value.int IntKind.i64) nums).toArray 3) := ⟨_, rfl⟩
  rw [← hW2]
  have g1 : ∀ k, k < 160 → W2.cell? ⟨w.heap.size, k, none⟩ = some (.int .i64 (nums.getD k 0)) := by
    intro k hk
    rw [hW2, old_cell _ _ _ _ (by simp), new_cell _ _ _ _ (by rw [nums_len]; exact hk)]
  have g2 : ∀ k, k < 160 → W2.cell? ⟨w.heap.size + 1, k, none⟩ = some (.int .i64 (nums.getD k 0)) := by
    intro k hk
    rw [hW2]
    have := new_cell (w.alloc (Obj.cells (List.map (Value.int IntKind.i64) nums).toArray 3)) nums 3 k (by rw [nums_len]; exact hk)
    simpa using this
  have hB2 : Below w.heap.size w W2 := by
    rw [hW2]
    exact ((Below.refl _ _).alloc (Nat.le_refl _) _).alloc (by simp) _
  clear hW2
  go_loopw [3] (fun i wr => ∃ k : Nat, k ≤ 160 ∧ i = .int .i64 (k : Nat) ∧ ∃ n, wr = W2.drewN n) (fun i _ => 160 - (intOf i).toNat)
  case atStart => exact ⟨0, by omega, rfl, 0, rfl⟩
  case round =>
    obtain ⟨k, hk, rfl, n, rfl⟩ := hrel
    by_cases hlt : k < 160
    · have c1 := g1 k hlt
      have c2 := g2 k hlt
      generalize nums.getD k 0 = V at c1 c2
      have hk1 : (k : Int) < 160 := by omega
      clear g1 g2
      go_wp2
      go_quiet (fail)
      go_wp2
      go_roundw
      case rel => exact ⟨k + 1, by omega, by go_num, n + nq, by simp⟩
      case measure => simp [intOf]; omega
    · have hk1 : ¬ (k : Int) < 160 := by omega
      clear g1 g2
      go_wp2_with (go_at_call 4; refine (num_any _ _).mono ?_; rintro e w' ⟨rfl, rfl⟩)
      obtain ⟨W3, hW3⟩ : ∃ W3, W3 = (W2.drewN n).alloc (Obj.cells (errs.map (Value.int .i64)).toArray 3) := ⟨_, rfl⟩
      rw [show (Obj.cells #[Value.int IntKind.i64 0, Value.int IntKind.i64 1, Value.int IntKind.i64 2, Value.int IntKind.i64 3, Value.int IntKind.i64 4, Value.int IntKind.i64 5, Value.int IntKind.i64 10, Value.int IntKind.i64 11, Value.int IntKind.i64 12, Value.int IntKind.i64 13, Value.int IntKind.i64 14, Value.int IntKind.i64 15, Value.int IntKind.i64 16, Value.int IntKind.i64 17, Value.int IntKind.i64 18, Value.int IntKind.i64 20, Value.int IntKind.i64 21, Value.int IntKind.i64 22, Value.int IntKind.i64 30, Value.int IntKind.i64 31, Value.int IntKind.i64 32, Value.int IntKind.i64 33, Value.int IntKind.i64 34, Value.int IntKind.i64 35, Value.int IntKind.i64 36, Value.int IntKind.i64 37, Value.int IntKind.i64 39] 3) = Obj.cells (errs.map (Value.int .i64)).toArray 3 from rfl, ← hW3]
      have g3 : ∀ k, k < 27 → W3.cell? ⟨W2.heap.size, k, none⟩ = some (.int .i64 (errs.getD k 0)) := by
        intro k hk
        rw [hW3]
        have := new_cell (W2.drewN n) errs 3 k (by rw [errs_len]; exact hk)
        simpa using this
      have hB3 : Below w.heap.size w W3 := by
        rw [hW3]
        exact (drawn hB2 n).alloc (by have h := hB2.size; exact h) _
      clear hW3 hB2
      go_loopw [5] (fun i wr => ∃ k : Nat, k ≤ 27 ∧ i = .int .i64 (k : Nat) ∧ ∃ n, wr = W3.drewN n) (fun i _ => 27 - (intOf i).toNat)
      case atStart => exact ⟨0, by omega, rfl, 0, rfl⟩
      case round =>
        obtain ⟨i, hi, rfl, n3, rfl⟩ := hrel
        by_cases hlt3 : i < 27
        · have hi1 : (i : Int) < 27 := by omega
          go_wp2
          go_loopw [6] (fun j wr => ∃ k : Nat, k ≤ i ∧ j = .int .i64 (k : Nat) ∧ ∃ n, wr = W3.drewN n) (fun j _ => i - (intOf j).toNat)
          case atStart => exact ⟨0, by omega, rfl, n3, rfl⟩
          case round =>
            obtain ⟨j, hj, rfl, n4, rfl⟩ := hrel
            by_cases hlt4 : j < i
            · have hj1 : (j : Int) < (i : Int) := by omega
              have hj2 : (j : Int) < 27 := by omega
              have c1 := g3 i hlt3
              have c2 := g3 j (by omega)
              have hne := errs_apart hlt3 hlt4
              generalize errs.getD i 0 = V at c1 hne
              generalize errs.getD j 0 = U at c2 hne
              clear g3
              go_wp2
              go_quiet (fail)
              go_wp2
              go_roundw
              case rel => exact ⟨j + 1, by omega, by go_num, n4 + nq, by simp⟩
              case measure => simp [intOf]; omega
            · have hj1 : ¬ (j : Int) < (i : Int) := by omega
              clear g3
              go_wp2
              go_roundw
              case rel => exact ⟨i + 1, by omega, by go_num, n4, rfl⟩
              case measure => simp [intOf]; omega
        · have hi1 : ¬ (i : Int) < 27 := by omega
          have hB4 : Below w.heap.size w (W3.drewN n3) := drawn hB3 n3
          have c3 := text3 (W3.drewN n3) (tab_later htab hB4)
          have e14 := t14_list
          have e0 := t0_list
          have e3 := t3_list
          clear g3
          go_wp2_with (first | (go_at_call 4; refine (num_any _ _).mono ?_; rintro e w' ⟨rfl, rfl⟩) | (go_at_call 5; (with_reducible refine (text14 _).mono ?_); rintro e w' ⟨rfl, rfl⟩) | (go_at_call 5; (with_reducible refine (text0 _).mono ?_); rintro e w' ⟨rfl, rfl⟩) | (go_at_call 5; (with_reducible refine c3.mono ?_); rintro e w5 ⟨rfl, hb5⟩))
          go_ret
          exact ⟨rfl, hB4.trans (hb5.mono hB4.size)⟩
end Go.Proofs.YtaajliecbchklaaDoor
